import PyProof.Rows.All
import Wide.All
import OpenK.AllK
import Wide.FinOn
import PyProof.EqAt
import PyProof.EqKinds
import PyProof.TupleCall
import PySem.Challenge.RW_raisedsums_k45_parts_turned
set_option Elab.async false
set_option linter.all false
set_option maxRecDepth 100000
namespace PySem.W.Fast
theorem tw11567931885063979773:True:=⟨⟩
theorem tw6618617009022196071:True:=⟨⟩
theorem tw5819542374052579882:True:=⟨⟩
theorem tw4208231242488305257:True:=⟨⟩
theorem tw2950934139567240599:True:=⟨⟩
theorem tw4381330153827662063:True:=⟨⟩
theorem tw4245635178692572437:True:=⟨⟩
theorem tw16456747508466532970:True:=⟨⟩
theorem tw6663714688139061083:True:=⟨⟩
theorem tw7982601737670629606:True:=⟨⟩
theorem tw1360857903704132152:True:=⟨⟩
theorem tw15480440039946455543:True:=⟨⟩
theorem tw17348090126763498867:True:=⟨⟩
theorem tw17397362224186854507:True:=⟨⟩
theorem tw9185272932271144183:True:=⟨⟩
theorem tw8448813993178078432:True:=⟨⟩
theorem tw15586147442910450202:True:=⟨⟩
theorem tw11749111637347975742:True:=⟨⟩
theorem tw12020711560569614649:True:=⟨⟩
theorem tw7382527731052614032:True:=⟨⟩
theorem tw14281957978070729826:True:=⟨⟩
theorem tw7459420655573715201:True:=⟨⟩
theorem tw4489529323346158656:True:=⟨⟩
theorem tw13219886920250985089:True:=⟨⟩
theorem tw15460934416969459042:True:=⟨⟩
theorem tw655926756638638125:True:=⟨⟩
theorem tw3689384602883298292:True:=⟨⟩
theorem tw6954405957356416313:True:=⟨⟩
theorem tw10976909635702281119:True:=⟨⟩
theorem tw7172164924710909606:True:=⟨⟩
theorem tw11746616975115485410:True:=⟨⟩
theorem tw18368827298378590968:True:=⟨⟩
theorem tw15030080816132841631:True:=⟨⟩
theorem tw4101759708292425305:True:=⟨⟩
theorem tw13879403568810903530:True:=⟨⟩
theorem tw6660398265549475484:True:=⟨⟩
theorem tw7041287551143955844:True:=⟨⟩
theorem tw12444079656132707727:True:=⟨⟩
theorem tw5952087110809094952:True:=⟨⟩
theorem tw6079808257869672019:True:=⟨⟩
theorem tw13427402698906562607:True:=⟨⟩
theorem tw904457259918632133:True:=⟨⟩
theorem tw8349871524778458949:True:=⟨⟩
theorem tw12214756948454105264:True:=⟨⟩
theorem tw15980965099569820500:True:=⟨⟩
theorem tw5850720413495005720:True:=⟨⟩
theorem tw17202487308964410447:True:=⟨⟩
theorem tw1880190388978461840:True:=⟨⟩
theorem tw17298453023026522922:True:=⟨⟩
theorem tw17376784085279734980:True:=⟨⟩
theorem tw3603465519502799422:True:=⟨⟩
theorem tw2723465715413870678:True:=⟨⟩
theorem tw462620926082476323:True:=⟨⟩
theorem tw489062504355500020:True:=⟨⟩
theorem tw7536047457229308443:True:=⟨⟩
theorem tw9997494602821067238:True:=⟨⟩
theorem tw6278581031015619162:True:=⟨⟩
theorem tw14791554915238561853:True:=⟨⟩
theorem tw18245287873201416943:True:=⟨⟩
theorem tw10102710422407360083:True:=⟨⟩
end PySem.W.Fast
set_option genSizeOfSpec false
set_option genInjectivity false
abbrev Fg:=PySem.W.Frag
abbrev xba:=@PySem.wpAny_bind
abbrev xbb:=@Nat.le_trans
abbrev xbc:=@List.getElem?_eq_some_iff
abbrev xbd:=@List.length_map
abbrev xbe:=@List.getElem?_eq_getElem
abbrev xbf:=@List.getElem?_append_left
abbrev xbg:=@Nat.le_refl
abbrev xbh:=@List.getD_eq_getElem?_getD
abbrev xbi:=@List.getElem?_set_ne
abbrev xbj:=@PyProof.Rows.wpS_bind
abbrev xbk:=@Nat.lt_of_lt_of_le
abbrev xbl:=@PySem.wpAny_pure
abbrev xbm:=@List.mem_cons_of_mem
abbrev xbn:=@PyProof.Rows.wpS_pure
abbrev xbo:=@PySem.Heap.get?_push_of_some
abbrev xbp:=@List.length_append
abbrev xbq:=@List.map_cons
abbrev xbr:=@List.mem_cons
abbrev xbs:=@List.mem_of_getElem?
abbrev xbt:=@PySem.Heap.lt_size
abbrev xbu:=@Nat.le_of_lt
abbrev xbv:=@List.length_cons
abbrev xbw:=@List.size_toArray
abbrev xbx:=@Nat.le_add_right
abbrev xby:=@decide_eq_false
abbrev xbz:=@Nat.le_of_not_lt
abbrev xca:=@Nat.ne_of_lt
abbrev xcb:=@List.mem_map
abbrev xcc:=@decide_eq_true
abbrev xcd:=@Array.length_toList
abbrev xce:=@PySem.Heap.get?_push_size
abbrev xcf:=@Nat.add_le_add_left
abbrev xcg:=@List.append_assoc
abbrev xch:=@List.mem_append
abbrev xci:=@Nat.add_sub_cancel'
abbrev xcj:=@List.mem_range
abbrev xck:=@List.getElem?_map
abbrev xcl:=@Array.getElem?_toList
abbrev xcm:=@List.length_set
abbrev xcn:=@List.mem_cons_self
abbrev xco:=@List.length_take
abbrev xcp:=@Option.some.inj
abbrev xcq:=@PySem.PassesOwn.never
abbrev xcr:=@List.getElem?_append_right
abbrev xcs:=@Option.map_eq_some_iff
abbrev xct:=@Nat.add_sub_cancel_left
abbrev xcu:=@List.drop_eq_getElem_cons
abbrev xcv:=@Nat.le_of_lt_succ
abbrev xcw:=@List.mem_filter
abbrev xcx:=@Nat.lt_of_le_of_lt
abbrev xcy:=@Nat.lt_of_le_of_ne
abbrev xcz:=@Nat.le_sub_one_of_lt
abbrev xda:=@List.take_length
abbrev xdb:=@Nat.le_of_succ_le
abbrev xdc:=@List.filter_cons_of_neg
abbrev xdd:=@List.filter_cons_of_pos
abbrev xde:=@List.mem_append_right
abbrev xdf:=@Nat.le_of_eq
abbrev xdg:=@Bool.false_eq_true
abbrev xdh:=@List.mem_singleton
abbrev xdi:=@Nat.le_of_add_left_le
abbrev xdj:=@PySem.W.mg_none_of
abbrev xdk:=@of_decide_eq_true
abbrev xdl:=@Array.toList_append
abbrev xdm:=@PyProof.Rows.wpS_forRange
abbrev xdn:=@List.nodup_cons
abbrev xdo:=@Nat.sub_lt_left_of_lt_add
abbrev xdp:=@Bool.and_eq_true
abbrev xdq:=@List.all_eq_true
abbrev xdr:=@List.map_map
abbrev xds:=@Nat.le_antisymm
abbrev xdt:=@Nat.add_lt_of_lt_sub'
abbrev xdu:=@List.filter_append
abbrev xdv:=@Nat.min_eq_left
abbrev xdw:=@List.map_append
abbrev xdx:=@List.getElem_of_mem
abbrev xdy:=@Nat.add_lt_add_left
abbrev xdz:=@PySem.wpAny_mono
abbrev xea:=@Nat.xor_assoc
abbrev xeb:=@List.find?_cons
abbrev xec:=@Nat.sub_lt_sub_right
abbrev xed:=@Nat.zero_add
abbrev xee:=@List.getElem?_set_self
abbrev xef:=@Nat.zero_le
abbrev xeg:=@Nat.not_lt_of_le
abbrev xeh:=@PySem.wpAny_truthy_bool
abbrev xei:=@Nat.le_sub_of_add_le'
abbrev xej:=@List.take_append_drop
abbrev xek:=@PySem.W.kia_one
abbrev xel:=@Ne.symm
abbrev xem:=@List.getElem_mem
abbrev xen:=@PySem.wpAny_holding
abbrev xeo:=@Nat.lt_of_succ_lt
abbrev xep:=@List.append_nil
abbrev xeq:=@Bool.false_ne_true
abbrev xer:=@List.length_drop
abbrev xes:=@List.lookup_cons
abbrev xet:=@Nat.succ_le_succ
abbrev xeu:=@List.getElem?_drop
abbrev xev:=@PyProof.Rows.wpS_mono
abbrev xew:=@PySem.F.slot_dict_keyiterator_next
abbrev xex:=@Nat.sub_le_sub_right
abbrev xey:=@Option.bind_eq_some_iff
abbrev xez:=@Nat.sub_pos_of_lt
abbrev xfa:=@Array.toList_push
abbrev xfb:=@if_false
abbrev xfc:=@PySem.wpAny_newObj_type
abbrev xfd:=@Bool.eq_iff_iff
abbrev xfe:=@List.map_congr_left
abbrev xff:=@Array.perm_iff_toList_perm
abbrev xfg:=@Nat.lt_of_not_le
abbrev xfh:=@PySem.wpAny_call_entry
abbrev xfi:=@Nat.lt_of_lt_of_eq
abbrev xfj:=@List.pairwise_append
abbrev xfk:=@Nat.le_succ_of_le
abbrev xfl:=@if_true
abbrev xfm:=@PySem.wpAny_typeNameOfWhole_keyiter
abbrev xfn:=@Int.eq_ofNat_of_zero_le
abbrev xfo:=@PySem.mem_of_lookup
abbrev xfp:=@beq_eq_false_iff_ne
abbrev xfq:=@List.nodup_nil
abbrev xfr:=@Nat.sub_le
abbrev xfs:=@List.take_of_length_le
abbrev xft:=@beq_iff_eq
abbrev xfu:=@PyProof.Rows.wpS_modify
abbrev xfv:=@Nat.sub_add_cancel
abbrev xfw:=@List.length_replicate
abbrev xfx:=@List.length_singleton
abbrev xfy:=@List.length_filter_le
abbrev xfz:=@List.Perm.append_left
abbrev xga:=@List.perm_append_comm
abbrev xgb:=@Nat.eq_of_beq_eq_true
abbrev xgc:=@Nat.le_of_ble_eq_true
abbrev xgd:=@PySem.wpAny_passesOwn
abbrev xge:=@Nat.lt_irrefl
abbrev xgf:=@Int.toNat_natCast
abbrev xgg:=@List.mem_of_mem_drop
abbrev xgh:=@List.take_succ_eq_append_getElem
abbrev xgi:=@beq_self_eq_true
abbrev xgj:=@PySem.Heap.SameBut.update
abbrev xgk:=@Nat.sub_le_sub_left
abbrev xgl:=@PyProof.Rows.slot_tuple_getitem
abbrev xgm:=@PySem.F.plainAttrs_dict
abbrev xgn:=@List.countP_cons_of_pos
abbrev xgo:=@Nat.lt_add_of_pos_right
abbrev xgp:=@List.getElem?_cons_succ
abbrev xgq:=@PySem.Paired.length
abbrev xgr:=@List.any_cons
abbrev xgs:=@List.sum_cons
abbrev xgt:=@PyProof.Rows.wpS_get
abbrev xgu:=@PySem.Calls.spliced_cons
abbrev xgv:=@List.length_nil
abbrev xgw:=@Nat.sub_lt
abbrev xgx:=@Nat.min_le_left
abbrev xgy:=@List.sum_append
abbrev xgz:=@List.pairwise_cons
abbrev xha:=@Int.natCast_add
abbrev xhb:=@PySem.tupleKind_room_in1
abbrev xhc:=@List.Perm.append_right
abbrev xhd:=@List.drop_eq_nil_of_le
abbrev xhe:=@decide_true
abbrev xhf:=@List.nodup_append
abbrev xhg:=@PySem.wpAny_dictEntries
abbrev xhh:=@decide_eq_true_eq
abbrev xhi:=@PySem.Heap.get?_update_self
abbrev xhj:=@Nat.lt_trans
abbrev xhk:=@PySem.F.slot_dict_pop
abbrev xhl:=@Nat.lt_or_ge
abbrev xhm:=@Array.extract_eq_empty_of_le
abbrev xhn:=@Int.zero_add
abbrev xho:=@decide_false
abbrev xhp:=@PyProof.Rows.callWith_type1
abbrev xhq:=@List.mem_append_left
abbrev xhr:=@Nat.min_le_right
abbrev xhs:=@Nat.min_eq_right
abbrev xht:=@Array.toList_reverse
abbrev xhu:=@List.reverse_reverse
abbrev xhv:=@List.mem_of_mem_take
abbrev xhw:=@PySem.wpAny_rule
abbrev xhx:=@List.filter_sublist
abbrev xhy:=@List.range_succ
abbrev xhz:=@Array.getElem?_eq_getElem
abbrev xia:=@List.pairwise_iff_getElem
abbrev xib:=@List.foldl_cons
abbrev xic:=@Int.emod_nonneg
abbrev xid:=@List.getElem?_take_of_lt
abbrev xie:=@PySem.F.args_tuple_add_2
abbrev xif:=@PySem.Obj.data_mapFields
abbrev xig:=@Nat.sub_self
abbrev xih:=@PySem.AutoSeq1.wpAny_loadPart'
abbrev xii:=@List.count_eq_zero
abbrev xij:=@PySem.wpAny_pyIter_tuple
abbrev xik:=@PySem.wpAny_Call_Name_kw
abbrev xil:=@PyProof.Rows.slot_tuple_getitem
abbrev xim:=@PySem.F.entry_tuple_add
abbrev xin:=@List.countP_cons_of_neg
abbrev xio:=@List.pairwise_singleton
abbrev xip:=@List.getElem?_cons_zero
abbrev xiq:=@List.eraseIdx_cons_succ
abbrev xir:=@PySem.Calls.spliced_nil
abbrev xis:=@Nat.zero_lt_of_lt
abbrev xit:=@List.ext_getElem?
abbrev xiu:=@Nat.lt_succ_of_lt
abbrev xiv:=@List.foldl_append
abbrev xiw:=@List.count_append
abbrev xix:=@PySem.F.slot_tuple_add
abbrev xiy:=@PySem.Calls.callWith_builtin
abbrev xiz:=@Array.getElem?_eq_none
abbrev xja:=@PySem.sizeLine_eq
abbrev xjb:=@List.filter_cons
abbrev xjc:=@List.mem_reverse
abbrev xjd:=@Nat.lt_succ_self
abbrev xje:=@PyProof.Rows.wpS_lift
abbrev xjf:=@PySem.F.slot_tuple_lt
abbrev xjg:=@PySem.F.slot_dict_get
abbrev xjh:=@List.getElem?_eq_none
abbrev xji:=@Nat.ble_eq_true_of_le
abbrev xjj:=@PySem.Calls.evalArgs_plain
abbrev xjk:=@Nat.add_zero
abbrev xjl:=@Nat.zero_xor
abbrev xjm:=@Nat.xor_zero
abbrev xjn:=@List.filter_nil
abbrev xjo:=@PySem.wpAny_execs_nil
abbrev xjp:=@PySem.codeAny_mono
abbrev xjq:=@PySem.call_meetsIn
abbrev xjr:=@List.filterMap_cons
abbrev xjs:=@List.filter_eq_self
abbrev xjt:=@PySem.F.slot_dict_setdefault
abbrev xju:=@PySem.wpAny_setField
abbrev xjv:=@Int.add_mul
abbrev xjw:=@PySem.wpAny_field
abbrev xjx:=@Array.append_empty
abbrev xjy:=@Nat.pos_of_ne_zero
abbrev xjz:=@Nat.eq_zero_or_pos
abbrev xka:=@PySem.wpAny_standAt
abbrev xkb:=@List.take_sublist
abbrev xkc:=@List.mapM_toArray
abbrev xkd:=@List.length_range
abbrev xke:=@PySem.wpAny_pyIter_list
abbrev xkf:=@List.mem_of_find?_eq_some
abbrev xkg:=@List.getElem_inj
abbrev xkh:=@Nat.ne_of_gt
abbrev xki:=@List.map_nil
abbrev xkj:=@List.any_eq_true
abbrev xkk:=@Nat.max_eq_right
abbrev xkl:=@Int.le_trans
abbrev xkm:=@List.not_mem_nil
abbrev xkn:=@Option.getD_some
abbrev xko:=@Nat.xor_comm
abbrev xkp:=@Nat.xor_self
abbrev xkq:=@List.Nodup.count
abbrev xkr:=@map_eq_pure_bind
abbrev xks:=@List.of_mem_zip
abbrev xkt:=@Nat.le_add_left
abbrev xku:=@List.filter_map
abbrev xkv:=@Nat.two_pos
abbrev xkw:=@Nat.le_succ
abbrev xkx:=@List.drop_drop
abbrev xky:=@Int.mul_nonneg
set_option maxHeartbeats 0
namespace L2
open PySem PySem.Spec PyProof.Rows
noncomputable abbrev Key:=Sum Int Str
noncomputable def keyIs:Key->Value->Bool
 | .inl k,v=>Value.isInt k v
 | .inr x,v=>Value.isStrOf x v
noncomputable def keyH (w:World):Key->Int
 | .inl k=>hashInt k
 | .inr x=>hashStr w x
theorem zbg:∀{k:Key} {v:Value},keyIs k v=true->(∃i t,k=Sum.inl i/\v=Value.int i t)\/(∃x t,k=Sum.inr x/\v=Value.str x t)
 | .inl i,v,h=>by
  obtain⟨t,e⟩:=Value.isInt_shape (k:=i) (v:=v) h;exact .inl ⟨i,t,rfl,e⟩
 | .inr x,v,h=>by
  obtain⟨t,e⟩:=Value.isStrOf_shape (x:=x) (v:=v) h;exact .inr ⟨x,t,rfl,e⟩
theorem ztq (i:Int)(t:Tok):keyIs (.inl i) (.int i t)=true:=by simp[keyIs,Value.isInt]
theorem ztp (x:Str)(t:Tok):keyIs (.inr x) (.str x t)=true:=by simp[keyIs,Value.isStrOf]
theorem zbhh (a b:Int):decide ((Sum.inl a:Key)=Sum.inl b)=(a==b):=by
 by_cases e:a=b
 ·subst e;simp
 ·have h:¬ (Sum.inl a:Key)=Sum.inl b:=fun q=>e (Sum.inl.inj q)
  rw[xby h];exact(xfp.mpr e).symm
theorem zbhe (a b:Str):decide ((Sum.inr a:Key)=Sum.inr b)=decide (a=b):=by
 by_cases e:a=b
 ·subst e;simp
 ·have h:¬ (Sum.inr a:Key)=Sum.inr b:=fun q=>e (Sum.inr.inj q)
  rw[xby h,xby e]
theorem zbhg (a:Int)(b:Str):decide ((Sum.inl a:Key)=Sum.inr b)=false:=xby (fun q=>nomatch q)
theorem zbhf (a:Str)(b:Int):decide ((Sum.inr a:Key)=Sum.inl b)=false:=xby (fun q=>nomatch q)
noncomputable def mixKind (prog:Program) (w:World):PySem.KeyKind prog w Key where
 is:=keyIs
 hash:=keyH w
 inj:=fun v a b ha hb=>by
  rcases zbg ha with⟨i,t,rfl,rfl⟩ | ⟨x,t,rfl,rfl⟩
  ·rcases zbg hb with⟨j,u,rfl,e⟩ | ⟨y,u,rfl,e⟩
   ·injection e with e1 _;rw[e1]
   ·exact nomatch e
  ·rcases zbg hb with⟨j,u,rfl,e⟩ | ⟨y,u,rfl,e⟩
   ·exact nomatch e
   ·injection e with e1 _;rw[e1]
 byValue:=fun k v h=>by
  rcases zbg h with⟨i,t,rfl,rfl⟩ | ⟨x,t,rfl,rfl⟩<;>rfl
 pyHash:=fun hv h=>by
  rcases zbg hv with⟨i,t,rfl,rfl⟩ | ⟨x,t,rfl,rfl⟩
  ·exact wpAny_pyHash_int h
  ·exact wpAny_pyHash_str h
 eqBool:=fun hu hv h=>by
  rcases zbg hu with⟨i,t,rfl,rfl⟩ | ⟨x,t,rfl,rfl⟩
  ·rcases zbg hv with⟨j,u,rfl,rfl⟩ | ⟨y,u,rfl,rfl⟩
   ·rw[zbhh] at h;exact wpAny_eqBool_int h
   ·rw[zbhg] at h;exact SeqAt.EqAt.int_str i t y u _ _ _ _ h
  ·rcases zbg hv with⟨j,u,rfl,rfl⟩ | ⟨y,u,rfl,rfl⟩
   ·rw[zbhf] at h;exact SeqAt.EqAt.str_int x t j u _ _ _ _ h
   ·rw[zbhe] at h;exact wpAny_eqBool_str h
 «strs»:=fun k x t v h=>by
  rcases zbg h with⟨i,u,rfl,e⟩ | ⟨y,u,rfl,e⟩
  ·exact nomatch e
  ·injection e with e1 _
   subst e1;cases v<;>rfl
theorem zpd (prog:Program)(w:World)(i:Int)(t:Tok):(mixKind prog w).is (.inl i) (.int i t)=true:=ztq i t
theorem zpc (prog:Program)(w:World)(x:Str)(t:Tok):(mixKind prog w).is (.inr x) (.str x t)=true:=ztp x t
set_option genInjectivity true in
inductive V where
 | non | bl (b:Bool) | int (i:Int) | str (x:Str) | byt (b:Array UInt8) | flt (b:UInt64) | ref (a:Addr) | ty (n:String)
 deriving DecidableEq
noncomputable def RelV:V->Value->Prop
 | .non,u=>u=Value.none
 | .bl b,u=>u=Value.bool b
 | .int i,u=>∃t,u=Value.int i t
 | .str x,u=>∃t,u=Value.str x t
 | .byt b,u=>∃t,u=Value.bytes b t
 | .flt b,u=>∃t,u=Value.float b t
 | .ref a,u=>u=Value.ref a
 | .ty n,u=>u=Value.type n
noncomputable abbrev Vals:List V->List Value->Prop:=Paired RelV
theorem Vals.length {xs:List V}{us:List Value}(r:Vals xs us):xs.length=us.length:=xgq r
theorem Vals.get:∀{xs:List V} {us:List Value} {i:Nat} {x:V},Vals xs us->xs[i]?=some x->∃u,us[i]?=some u/\RelV x u
 | _,_,_,_,.nil,e=>by simp at e
 | _,_,0,_,.cons r _,e=>by simp at e;subst e;exact⟨_,rfl,r⟩
 | _,_,i+1,x,.cons _ t,e=>by
  obtain⟨u,h1,h2⟩:=Vals.get (i:=i) (x:=x) t (by simpa using e);exact⟨u,by simpa using h1,h2⟩
theorem Vals.set {x:V}{u:Value}(r:RelV x u):∀{xs:List V} {us:List Value} (i:Nat),Vals xs us->Vals (xs.set i x) (us.set i u)
 | _,_,_,.nil=>.nil
 | _,_,0,.cons _ t=>.cons r t
 | _,_,i+1,.cons q t=>.cons q (Vals.set r i t)
theorem Vals.append:∀{xs ys:List V} {us ws:List Value},Vals xs us->Vals ys ws->Vals (xs++ys) (us++ws)
 | _,_,_,_,.nil,s=>s
 | _,_,_,_,.cons r t,s=>.cons r (Vals.append t s)
theorem Vals.take:∀{xs:List V} {us:List Value} (n:Nat),Vals xs us->Vals (xs.take n) (us.take n)
 | _,_,0,_=>.nil
 | _,_,_+1,.nil=>.nil
 | _,_,n+1,.cons r t=>.cons r (Vals.take n t)
theorem Vals.drop:∀{xs:List V} {us:List Value} (n:Nat),Vals xs us->Vals (xs.drop n) (us.drop n)
 | _,_,0,r=>r
 | _,_,_+1,.nil=>.nil
 | _,_,n+1,.cons _ t=>Vals.drop n t
noncomputable def RelO:Option V->Option Value->Prop
 | some v,some u=>RelV v u
 | none,none=>True
 | _,_=>False
noncomputable def KV {κ:Type}:List (κ×V)->List (κ×Value)->Prop:=Paired fun(p:κ×V) (q:κ×Value)=>p.1=q.1/\RelV p.2 q.2
noncomputable def kV:Key->V
 | .inl i=>.int i
 | .inr x=>.str x
set_option genInjectivity true in
inductive HO where
 /-- a list -/
 | lst (xs:List V)
 /-- a tuple (never changes) -/
 | tup (xs:List V)
 /-- a dict whose keys are ints and texts;one whose keys are tuples of ints and texts (the empty one is both) -/
 | dK (kvs:List (Key×V)) | dT (kvs:List (List Key×V))
 /-- a set of ints: its members,its size -/
 | set (S:Int->Bool) (n:Nat)
 /-- an instance of the class at C,its dict at dx,its attributes -/
 | ins (C dx:Addr) (fs:List (Str×V))
 /-- the dict of the instance at x -/
 | own (x:Addr)
 /-- the dict of an exception -/
 | xd (fs:List (Str×V))
 /-- a bound method,f of x -/
 | met (f x:Addr)
 /-- a range object lo,lo+1,.. below hi -/
 | rng (lo hi:Int)
 /-- a thing that is known to the object (the script;a dict while a loop walks it): read,never written while it is so -/
 | frz (o:Obj) (u:HO)
 /-- a code object's table -/
 | tbl (ps:Array Value)
 /-- any other thing,by what is true of its one object (a def of one's own: SetO a S n:=HO.ext fun h=>..) -/
 | ext (φ:Heap->Prop)
noncomputable abbrev Hp:=Addr->Option HO
noncomputable def upd (H:Hp) (a:Addr) (o:HO):Hp:=fun b=>if b=a then some o else H b
theorem zx {H:Hp}{a:Addr}{o:HO}:upd H a o a=some o:=by unfold upd;rw[if_pos rfl]
theorem zv {H:Hp}{a b:Addr}{o:HO}(h:b≠a):upd H a o b=H b:=by unfold upd;rw[if_neg h]
theorem zbjx {H:Hp}{a b:Addr}{o u:HO}(h:H a=some o)(h':H b=some u)(d:o≠u):a≠b:=by
 intro e;subst e;rw[h] at h';exact d (xcp h')
theorem zl {H:Hp}{a b:Addr}{o:HO}(h:H a=some o)(h':H b=none):a≠b:=by
 intro e;subst e;rw[h] at h';cases h'
section
variable (P:Program)(w:World)
noncomputable def ObjOk (H:Hp) (h:Heap) (a:Addr):HO->Prop
 | .lst xs=>xs.length<=sizeLine/\∃(its:List Value) (n:Nat), Vals xs its/\h.get? a=some { cls:=.type "list", data:=.seq its.toArray n }
 | .tup xs=>xs.length<=sizeLine/\∃its:List Value,Vals xs its/\IsTup h a its.toArray
 | .dK kvs=>kvs.length<=sizeLine/\(a==sysModules)=false/\∃vs,KV kvs vs/\h.DictOf (mixKind P w) a vs
 | .dT kvs=>kvs.length<=sizeLine/\(a==sysModules)=false/\∃xs:List (List Key×Addr×Value),
  Paired (fun(p:List Key×V) (q:List Key×Addr×Value)=>p.1=q.1/\H q.2.1=some (.tup (p.1.map kV))/\RelV p.2 q.2.2) kvs xs /\
  ∃o es ep,h.get? a=some o/\o.ExactDict/\o.data=.dict es ep/\es.toList=xs.map (entryOfKey (tupleKind (mixKind P w)))/\(xs.map (·.1)).Nodup
 | .set S n=>h.SetOf (intKind P w) a S n
 | .ins C dx fs=>H dx=some (.own a)/\fs.length<=1000/\dx≠a/\h.get? a=some (W.instObj C dx) /\
  ∃mA,h.Ns1 dx mA/\(∀f,RelO (fs.lookup f) (mA f))/\PySem.Within mA (fs.map (·.1))
 | .own _=>∃o,h.get? a=some o
 | .xd fs=>∃mA,h.Ns1 a mA/\∀f,RelO (fs.lookup f) (mA f)
 | .rng lo hi=>∃ t u v, h.get? a=some { cls:=.type "range", data:=.fields #[.int lo t, .int hi u, .int 1 v] }
 | .frz o u=>h.get? a=some o/\ObjOk H h a u
 | .tbl ps=>h.get? a=some {cls:=.none,data:=.fields ps}
 | .met f x=>h.get? a=some (W.methodObj (.ref f) (.ref x))
 | .ext φ=>φ h/\(∃o,h.get? a=some o)/\∀h1 h2:Heap,φ h1->(∀o,h1.get? a=some o->h2.get? a=some o)->φ h2
noncomputable def HOk (H:Hp) (h:Heap):Prop:=∀a o,H a=some o->ObjOk P w H h a o
end
section
variable {P:Program}{w:World}{H H':Hp}{h h':Heap}{a:Addr}{o:HO}
theorem ObjOk.lt (x:ObjOk P w H h a o):a < h.objs.size:=by
 cases o with
 | lst xs=>obtain⟨_,_,_,_,e⟩:=x;exact xbt e
 | tup xs=>obtain⟨_,_,_,p⟩:=x;exact p.lt
 | dK kvs=>obtain⟨_,_,_,_,o,_,_,e,_⟩:=x;exact xbt e
 | dT kvs=>obtain⟨_,_,_,_,o,_,_,e,_⟩:=x;exact xbt e
 | set S n=>obtain⟨o,_,_,_,e,_⟩:=x;exact xbt e
 | ins C dx fs=>obtain⟨_,_,_,e,_⟩:=x;exact xbt e
 | own y=>obtain⟨_,e⟩:=x;exact xbt e
 | xd fs=>obtain⟨_,⟨_,_,_,e,_⟩,_⟩:=x;exact xbt e
 | rng lo hi=>obtain⟨_,_,_,e⟩:=x;exact xbt e
 | frz ob u=>obtain⟨e,_⟩:=x;exact xbt e
 | tbl ps=>exact xbt (show h.get? a=some _ from x)
 | met f y=>exact xbt (show h.get? a=some _ from x)
 | ext φ=>obtain⟨_,⟨_,e⟩,_⟩:=x;exact xbt e
theorem Paired.mapP {α β:Type}{F G:α->β->Prop}:∀{l₁:List α} {l₂:List β},Paired F l₁ l₂->(∀a b,F a b->G a b)->Paired G l₁ l₂
 | _,_,.nil,_=>.nil
 | _,_,.cons r t,f=>.cons (f _ _ r) (Paired.mapP t f)
theorem ObjOk.stay (x:ObjOk P w H h a o)(k:∀b u,(b=a\/H b=some (.own a))->h.get? b=some u->h'.get? b=some u)
  (ho:∀b,H b=some (.own a)->H' b=some (.own a))(ht:∀b xs,H b=some (.tup xs)->H' b=some (.tup xs)):ObjOk P w H' h' a o:=by
 induction o with
 | lst xs=>obtain⟨z,its,n,r,e⟩:=x;exact⟨z,its,n,r,k _ _ (.inl rfl) e⟩
 | tup xs=>obtain⟨z,its,r,ob,e,c⟩:=x;exact⟨z,its,r,ob,k _ _ (.inl rfl) e,c⟩
 | dK kvs=>obtain⟨z,y,vs,r,ob,es,ep,e,c⟩:=x;exact⟨z,y,vs,r,ob,es,ep,k _ _ (.inl rfl) e,c⟩
 | dT kvs =>
  obtain⟨z,y,xs,r,ob,es,ep,e,c⟩:=x;exact⟨z,y,xs,Paired.mapP r fun p q z=>⟨z.1,ht _ _ z.2.1,z.2.2⟩,ob,es,ep,k _ _ (.inl rfl) e,c⟩
 | set S n=>obtain⟨ob,es,ep,t,e,c⟩:=x;exact⟨ob,es,ep,t,k _ _ (.inl rfl) e,c⟩
 | ins C dx fs =>
  obtain⟨d,z,ne,e,mA,⟨od,es,ep,e2,c⟩,r⟩:=x;exact⟨ho _ d,z,ne,k _ _ (.inl rfl) e,mA,⟨od,es,ep,k _ _ (.inr d) e2,c⟩,r⟩
 | own y=>obtain⟨ob,e⟩:=x;exact⟨ob,k _ _ (.inl rfl) e⟩
 | xd fs=>obtain⟨mA,⟨od,es,ep,e,c⟩,r⟩:=x;exact⟨mA,⟨od,es,ep,k _ _ (.inl rfl) e,c⟩,r⟩
 | rng lo hi=>obtain⟨t,u,v,e⟩:=x;exact⟨t,u,v,k _ _ (.inl rfl) e⟩
 | frz ob u ih=>obtain⟨e,q⟩:=x;exact⟨k _ _ (.inl rfl) e,ih q⟩
 | tbl ps =>
  have e:h.get? a=some {cls:=.none,data:=.fields ps}:=x;show h'.get? a=some {cls:=.none,data:=.fields ps};exact k a _ (.inl rfl) e
 | met f y =>
  have e:h.get? a=some (W.methodObj (.ref f) (.ref y)):=x;show h'.get? a=some (W.methodObj (.ref f) (.ref y));exact k a _ (.inl rfl) e
 | ext φ=>obtain⟨p,⟨o,e⟩,st⟩:=x;exact⟨st _ _ p fun o q=>k _ _ (.inl rfl) q,⟨o,k _ _ (.inl rfl) e⟩,st⟩
theorem HOk.lt (x:HOk P w H h)(e:H a=some o):a < h.objs.size:=(x a o e).lt
theorem HOk.fresh (x:HOk P w H h)(e:h.objs.size<=a):H a=none:=by
 cases q:H a with
 | none=>rfl
 | some u=>exact absurd (xbk (x.lt q) e) (xge _)
theorem HOk.kept (x:HOk P w H h)(k:∀b u,h.get? b=some u->h'.get? b=some u):HOk P w H h':=fun a o e =>
 (x a o e).stay (fun b u _ q=>k b u q) (fun _ q=>q) fun _ _ q=>q
theorem HOk.laid (x:HOk P w H h)(k:∀b u,h.get? b=some u->h'.get? b=some u)(hp:h.objs.size<=a)(new:ObjOk P w (upd H a o) h' a o):HOk P w (upd H a o) h':=fun b u e=>by
 have hn:=x.fresh hp;by_cases hb:b=a
 ·subst hb;rw[zx] at e;cases e;exact new
 ·rw[zv hb] at e;exact(x b u e).stay (fun c v _ q=>k c v q) (fun c q=>by rw[zv (zl q hn)];exact q) fun c xs q=>by rw[zv (zl q hn)];exact q
end
noncomputable def Rd (H:Hp) (a:Addr) (u:HO):Prop:=H a=some u\/∃o,H a=some (.frz o u)
theorem Rd.ok {P:Program}{w:World}{H:Hp}{h:Heap}{a:Addr}{u:HO}(r:Rd H a u)(x:HOk P w H h):ObjOk P w H h a u:=by
 rcases r with r | ⟨o,r⟩
 ·exact x a u r
 ·obtain⟨_,q⟩:=x a _ r;exact q
noncomputable def Mut:Option HO->Prop
 | some (.lst _)=>True
 | some (.dK _)=>True
 | some (.dT _)=>True
 | some (.set _ _)=>True
 | some (.ins _ _ _)=>True
 | some (.ext _)=>True
 | _=>False
section
variable {P:Program}{w:World}{H:Hp}{h h':Heap}{x e:Addr}{o':HO}
theorem HOk.write (ok:HOk P w H h)(mu:Mut (H x))(he:e=x\/H e=some (.own x))(k:∀b u,b≠e->h.get? b=some u->h'.get? b=some u)(heo:∃u,h'.get? e=some u)
  (new:ObjOk P w (upd H x o') h' x o'):HOk P w (upd H x o') h':=fun b u q=>by
 have nown:∀c y,H c=some (.own y)->c≠x:=fun c y r z=>by subst z;rw[r] at mu;exact mu
 have ntup:∀c xs,H c=some (.tup xs)->c≠x:=fun c xs r z=>by subst z;rw[r] at mu;exact mu
 by_cases hb:b=x
 ·subst hb;rw[zx] at q;cases q;exact new
 ·rw[zv hb] at q;by_cases hbe:b=e
  ·have q':H b=some (.own x):=by
    rcases he with z | z
    ·exact absurd (hbe.trans z) hb
    ·rw[hbe];exact z
   rw[q] at q';cases q'
   obtain⟨v,hv⟩:=heo;exact⟨v,by rw[hbe];exact hv⟩
  ·refine(ok b u q).stay (fun c v hc r=>k c v ?_ r) (fun c r=>by rw[zv (nown c b r)];exact r) fun c xs r=>by rw[zv (ntup c xs r)];exact r
   rcases hc with rfl | hc
   ·exact hbe
   ·rintro rfl;rcases he with z | z
    ·exact nown c b hc z
    ·rw[hc] at z;cases z;exact hb rfl
end
structure Un (fs ex:List Addr) (H H':Hp) (h h':Heap):Prop where
 keep:∀b o,h.get? b=some o->H b=none->b∉fs->b∉ex->h'.get? b=some o
 slot:∀b o,h.get? b=some o->H b=none->b∈fs->b∉ex->∃sl,h'.get? b=some {o with slots:=sl}
 free:∀b o,h.get? b=some o->H b=none->b∉ex->H' b=none
 there:∀b o,h.get? b=some o->b∉ex->∃o',h'.get? b=some o'
 tups:∀b xs,H b=some (.tup xs)->H' b=some (.tup xs)
 frzs:∀b o u,H b=some (.frz o u)->H' b=some (.frz o u)
 tbls:∀b ps,H b=some (.tbl ps)->∃more,H' b=some (.tbl (ps++more))
section
variable {fs fs' ex ex':List Addr}{H H1 H2:Hp}{h h1 h2 h':Heap}{a x e:Addr}{o:HO}
theorem Un.any (u:Un fs ex H H1 h h1){b:Addr}{ob:Obj}(q:h.get? b=some ob)(n:H b=none)(hx:b∉ex):∃sl,h1.get? b=some {ob with slots:=sl}:=by
 by_cases hb:b∈fs
 ·exact u.slot b ob q n hb hx
 ·exact⟨ob.slots,u.keep b ob q n hb hx⟩
theorem Un.kept (k:∀b u,h.get? b=some u->h'.get? b=some u):Un fs ex H H h h' :=
 ⟨fun b ob q _ _ _=>k b ob q,fun b ob q _ _ _=>⟨ob.slots,k b ob q⟩,fun _ _ _ n _=>n,fun b ob q _=>⟨ob,k b ob q⟩,fun _ _ q=>q,fun _ _ _ q=>q,fun _ ps q=>⟨#[],by rw[q];simp⟩⟩
theorem Un.refl:Un fs ex H H h h:=Un.kept fun _ _ q=>q
theorem Un.laid (k:∀b u,h.get? b=some u->h'.get? b=some u)(hp:h.objs.size<=a)(hn:H a=none):Un fs ex H (upd H a o) h h' where
 keep:=fun b u q _ _ _=>k b u q
 slot:=fun b u q _ _ _=>⟨u.slots,k b u q⟩
 free:=fun b u q n _=>by rw[zv (xca (xbk (xbt q) hp))];exact n
 there:=fun b u q _=>⟨u,k b u q⟩
 tups:=fun b xs q=>by rw[zv (zl q hn)];exact q
 frzs:=fun b u xs q=>by rw[zv (zl q hn)];exact q
 tbls:=fun b ps q=>⟨#[],by rw[zv (zl q hn),q];simp⟩
theorem Un.write (mu:Mut (H x))(he:e=x\/H e=some (.own x))(k:∀b u,b≠e->h.get? b=some u->h'.get? b=some u)(heo:∃u,h'.get? e=some u):Un fs ex H (upd H x o) h h':=by
 have hx:∀b,H b=none->b≠x:=fun b n z=>by subst z;rw[n] at mu;exact mu
 have hb:∀b,H b=none->b≠e:=fun b n z=>by
  subst z;rcases he with r | r
  ·exact hx b n r
  ·rw[n] at r;cases r
 have hm:∀b u,H b=some u->¬ Mut (some u)->b≠x:=fun b u q nm z=>by subst z;rw[q] at mu;exact nm mu
 refine⟨fun b u q n _ _=>k b u (hb b n) q,fun b u q n _ _=>⟨u.slots,k b u (hb b n) q⟩,fun b u q n _=>by rw[zv (hx b n)];exact n,fun b u q _=>?_,
  fun b xs q=>by rw[zv (hm b _ q fun z=>z)];exact q,fun b u xs q=>by rw[zv (hm b _ q fun z=>z)];exact q,fun b ps q=>⟨#[],by rw[zv (hm b _ q fun z=>z),q];simp⟩⟩
 by_cases hbe:b=e
 ·subst hbe;exact heo
 ·exact⟨u,k b u hbe q⟩
end
noncomputable def trk (h:Heap) (H:Hp):List Addr:=(List.range h.objs.size).filter fun a=>(H a).isSome
noncomputable def hidT (h:Heap) (H:Hp):Heap:=W.hideAll h (trk h H)
theorem ztu (h:Heap)(H:Hp):(hidT h H).objs.size=h.objs.size:=W.hideAll_size _ _
theorem zxu {h:Heap}{H:Hp}{b:Addr}{o:Obj}(e:h.get? b=some o)(n:H b=none):(hidT h H).get? b=some o :=
 W.hideAll_get _ e fun hm=>by
  have q:(H b).isSome=true:=(xcw.mp hm).2;rw[n] at q;simp at q
theorem zbca {h:Heap}{H:Hp}{b:Addr}{o:Obj}(e:(hidT h H).get? b=some o):h.get? b=some o/\H b=none:=by
 have e':h.get? b=some o:=W.of_hideAll (trk h H) e;refine⟨e',?_⟩;cases q:H b with
 | none=>rfl
 | some x =>
  have hm:b∈trk h H:=xcw.mpr ⟨xcj.mpr (xbt e'),by simp[q]⟩;have z:(hidT h H).get? b=none:=W.hideAll_none (trk h H) hm;rw[z] at e;cases e
structure Mod (K:Fg) (mg:Str->Option Value) (base:Heap):Prop where
 kin:K.In base
 glob:base.Ns mainGlobals mg
 blt:∃ mb, base.Ns builtinsNs mb/\∀ x:Str, x≠"__name__"->mb x=bootBuiltins x
 nolimit:base.NoLimit
structure Cx where
 prog:Program
 w:World
 K:Fg
 mg:Str->Option Value
 base:Heap
 A:Around
 N:List Str
 s₀:Shared
 H₀:Hp
 env:Env
 outer:List Env
 stack:List Env
 ex:List Addr
 fn:Str->Bool
 calm:Bool
 pn:List (Addr×Obj)
 xe:Value->Shared->Prop
noncomputable def frs (l:List Env):List Addr:=l.filterMap (·.frame)
noncomputable abbrev Cx.fs (X:Cx):List Addr:=frs X.outer
noncomputable def Vis (sc:Scope) (x:Str):Prop:=sc.names.lookup x=some .local\/sc.names.lookup x=some .cell\/sc.names.lookup x=some .free
noncomputable def Loc (sc:Scope) (x:Str):Prop:=sc.names.lookup x=some .local\/sc.names.lookup x=some .cell
noncomputable def Look (env:Env) (h:Heap) (m:Str->Option Value) (x:Str) (u:Value):Prop :=
 (env.kindOf x=some .local/\m x=some u)\/((env.kindOf x=some .cell\/env.kindOf x=some .free)/\∃c,env.cells.lookup x=some c/\h.IsCell c (some u))
structure Cx.Ok (X:Cx):Prop where
 mod:Mod X.K X.mg X.base
 kind:X.env.scope.kind=.function
 glob:X.env.globals=mainGlobals
 blt:X.env.builtins=builtinsNs
 above:X.s₀.heap.objs.size<=X.env.locals
 inj:∀x y c,X.env.cells.lookup x=some c->X.env.cells.lookup y=some c->x=y
 has:∀x,(X.env.kindOf x=some .cell\/X.env.kindOf x=some .free)->∃c,X.env.cells.lookup x=some c
 cab:∀x c,X.fn x=true->X.env.cells.lookup x=some c->X.s₀.heap.objs.size<=c
 hd:X.calm=true->X.A.handled=none
 frames:X.A.frames=some X.stack
 stk:X.stack=X.outer\/(X.stack=X.env::X.outer/\X.env.frame=some X.env.locals)
 exf:∀b∈X.ex,b≠X.env.locals/\∀x c,X.env.cells.lookup x=some c->c≠b
 bs:∀b o,X.base.get? b=some o->X.s₀.heap.get? b=some o/\X.H₀ b=none
 bsz:X.base.objs.size<=X.s₀.heap.objs.size
 noex:∀b o,X.base.get? b=some o->b∉X.ex
 exfs:∀b∈X.ex,b∉X.fs
 funs:X.s₀.heap.FunFrames X.base X.outer
 frf:∀b∈X.fs,X.H₀ b=none
noncomputable def Hnd (A:Around) (H:Hp):Prop:=∀v,A.handled=some v->∃a o,v=.ref a/\H a=some (.frz o (.ext fun _=>True))/\∃vs,o.data=.fields vs/\vs[2]?=some .none
theorem Hnd.map {A:Around}{H H':Hp}(h:Hnd A H)(f:∀b o u,H b=some (.frz o u)->H' b=some (.frz o u)):Hnd A H':=fun v e=>let ⟨a,o,h1,h2,h3⟩:=h v e;⟨a,o,h1,f _ _ _ h2,h3⟩
theorem Hnd.none {A:Around}{H:Hp}(h:A.handled=.none):Hnd A H:=fun v e=>by rw[h] at e;cases e
structure Inv (X:Cx) (aA:List (Addr×Obj)) (σ:List (Option V)) (H:Hp) (s:Shared):Prop where
 ok:X.Ok
 os:s.os=X.s₀.os
 bare:AllBare s.gens
 base:Un X.fs X.ex X.H₀ H X.s₀.heap s.heap
 loc:∃m,s.heap.Ns X.env.locals m/\∀(i:Nat) (x:Str) (v:V),X.N[i]?=some x->σ[i]?=some (some v)->Vis X.env.scope x->∃u,RelV v u/\Look X.env s.heap m x u
 cell:∀x c,X.env.cells.lookup x=some c->∃v,s.heap.IsCell c v
 free:H X.env.locals=none
 freeC:∀x c,X.env.cells.lookup x=some c->H c=none
 pin:∀p∈X.pn++aA,s.heap.get? p.1=some p.2/\H p.1=none/\p.1≠X.env.locals/\p.1∉X.fs/\∀v,p.2.data≠.cell v
 hok:HOk X.prog X.w H s.heap
 len:σ.length=X.N.length
 hnd:Hnd X.A H
section
variable {X:Cx}{aA:List (Addr×Obj)}{σ:List (Option V)}{H H':Hp}{s:Shared}{h':Heap}
theorem Cx.Ok.nofr (ok:X.Ok){b:Addr}{o:Obj}(e:X.base.get? b=some o):b∉X.fs:=fun hb=>by
 have:=(ok.funs.mem hb).1;rw[e] at this;cases this
theorem Inv.bs (I:Inv X aA σ H s):∀b o,X.base.get? b=some o->s.heap.get? b=some o/\H b=none:=fun b o e =>
 ⟨I.base.keep b o (I.ok.bs b o e).1 (I.ok.bs b o e).2 (I.ok.nofr e) (I.ok.noex b o e),I.base.free b o (I.ok.bs b o e).1 (I.ok.bs b o e).2 (I.ok.noex b o e)⟩
theorem Inv.bk (I:Inv X aA σ H s):∀b o,X.base.get? b=some o->s.heap.get? b=some o:=fun b o e=>(I.bs b o e).1
theorem Inv.mod (I:Inv X aA σ H s):Mod X.K X.mg X.base:=I.ok.mod
theorem Inv.kIn (I:Inv X aA σ H s):X.K.In s.heap:=I.ok.mod.kin.keeps I.bk
theorem Inv.lt (I:Inv X aA σ H s):X.env.locals < s.heap.objs.size:=let ⟨_,hn,_⟩:=I.loc;hn.lt
theorem Inv.sz (I:Inv X aA σ H s):X.s₀.heap.objs.size<=s.heap.objs.size:=xbb I.ok.above (xbu I.lt)
theorem Inv.nofs (I:Inv X aA σ H s){a:Addr}(h:s.heap.objs.size<=a):a∉X.fs:=fun hb=>by
 obtain⟨_,o,ho,_⟩:=I.ok.funs.mem hb;exact absurd (xbk (xbt ho) (xbb I.sz h)) (xge _)
theorem Inv.cne (I:Inv X aA σ H s):∀x c,X.env.cells.lookup x=some c->c≠X.env.locals:=fun x c e z=>by
 obtain⟨v,o,ho,hd⟩:=I.cell x c e;obtain⟨m,⟨o',es,ep,ho',hd',_⟩,_⟩:=I.loc;rw[z,ho'] at ho;cases ho;rw[hd'] at hd;cases hd
theorem Inv.funs (I:Inv X aA σ H s):s.heap.FunFrames X.base X.outer:=by
 have all:∀(l:List Env),(∀b∈frs l,b∈X.fs)->X.s₀.heap.FunFrames X.base l->s.heap.FunFrames X.base l:=by
  intro l
  induction l with
  | nil=>intro _ _;trivial
  | cons env r ih =>
   intro hs hl;obtain⟨hk,⟨L,o,hf,hn,ho,hd⟩,hr⟩:=hl;have hL:L∈X.fs:=hs L (by unfold frs;rw[xjr,hf];exact xcn);obtain⟨sl,e⟩:=I.base.slot L o ho (I.ok.frf L hL) hL fun z=>I.ok.exfs L z hL
   exact⟨hk,⟨L,_,hf,hn,e,hd⟩,ih (fun b hb=>hs b (by unfold frs;rw[xjr,hf];exact xbm _ hb)) hr⟩
 exact all X.outer (fun _ hb=>hb) I.ok.funs
theorem Inv.stack (I:Inv X aA σ H s):s.heap.FunFrames X.base X.stack:=by
 rcases I.ok.stk with e | ⟨e,hf⟩
 ·rw[e];exact I.funs
 ·rw[e];obtain⟨m,hn,_⟩:=I.loc;refine .cons (by rw[I.ok.kind];decide) hf hn ?_ I.funs;exact Heap.get?_none_of_le (xbb I.ok.bsz I.ok.above)
theorem Inv.stkSub (I:Inv X aA σ H s):∀b∈frs X.stack,b∈X.env.locals::X.fs:=fun b hb=>by
 rcases I.ok.stk with e | ⟨e,hf⟩
 ·rw[e] at hb;exact xbm _ hb
 ·rw[e] at hb;unfold frs at hb;rw[xjr,hf] at hb;exact hb
theorem Inv.stkFree (I:Inv X aA σ H s):∀b∈frs X.stack,H b=none:=fun b hb=>by
 rcases xbr.mp (I.stkSub b hb) with e | hb
 ·rw[e];exact I.free
 ·obtain⟨_,o,ho,_⟩:=I.ok.funs.mem hb;exact I.base.free b o ho (I.ok.frf b hb) fun z=>I.ok.exfs b z hb
theorem Inv.step {g':Array GenState}{t':Nat}{d':Drawn}{ch:List Addr}(I:Inv X aA σ H s)
  (hch:∀b∈ch,(b∈X.ex\/X.s₀.heap.objs.size<=b)/\b≠X.env.locals/\(∀x c,X.env.cells.lookup x=some c->c≠b)/\∀p∈X.pn++aA,p.1≠b)
  (keep:∀b o,b≠X.env.locals->b∉X.fs->b∉ch->s.heap.get? b=some o->H b=none->h'.get? b=some o)
  (slot:∀b o,b≠X.env.locals->b∈X.fs->b∉ch->s.heap.get? b=some o->H b=none->∃sl,h'.get? b=some {o with slots:=sl})(free:∀b o,b∉ch->s.heap.get? b=some o->H b=none->H' b=none)
  (there:∀b o,b∉ch->s.heap.get? b=some o->∃o',h'.get? b=some o')
  (tups:∀b xs,H b=some (.tup xs)->H' b=some (.tup xs))(frzs:∀b o u,H b=some (.frz o u)->H' b=some (.frz o u))(tbls:∀b ps,H b=some (.tbl ps)->∃more,H' b=some (.tbl (ps++more)))
  (ns:∀m,s.heap.Ns X.env.locals m->h'.Ns X.env.locals m)(hok:HOk X.prog X.w H' h')(hg:AllBare g') :
  Inv X aA σ H' {s with heap:=h',gens:=g',drawn:=d',toks:=t'}:=by
 have neL:∀b o,X.s₀.heap.get? b=some o->b≠X.env.locals:=fun b o e=>xca (xbk (xbt e) I.ok.above)
 have neC:∀b o,X.s₀.heap.get? b=some o->b∉X.ex->b∉ch:=fun b o e hx hb=>by
  rcases(hch b hb).1 with z | z
  ·exact hx z
  ·exact absurd (xbk (xbt e) z) (xge _)
 have cellK:∀x c,X.env.cells.lookup x=some c->∀v,s.heap.IsCell c v->h'.IsCell c v:=fun x c e v hq0=>by
  obtain⟨o,ho,hd⟩:=hq0;have nch:c∉ch:=fun z=>(hch c z).2.2.1 x c e rfl
  by_cases hc:c∈X.fs
  ·obtain⟨sl,q⟩:=slot c o (I.cne x c e) hc nch ho (I.freeC x c e);exact⟨_,q,hd⟩
  ·exact⟨o,keep c o (I.cne x c e) hc nch ho (I.freeC x c e),hd⟩
 refine⟨I.ok,I.os,hg,⟨fun b o e n hb hx=>?_,fun b o e n hb hx=>?_,fun b o e n hx=>?_,fun b o e hx=>?_,fun b xs e=>tups b xs (I.base.tups b xs e),fun b o xs e=>frzs b o xs (I.base.frzs b o xs e),fun b ps e=>?_⟩,?_,fun x c e=>?_,?_,fun x c e=>?_,fun p hp=>?_,hok,I.len,I.hnd.map frzs⟩
 ·exact keep b o (neL b o e) hb (neC b o e hx) (I.base.keep b o e n hb hx) (I.base.free b o e n hx)
 ·obtain⟨sl,e1⟩:=I.base.slot b o e n hb hx;obtain⟨sl',e2⟩:=slot b _ (neL b o e) hb (neC b o e hx) e1 (I.base.free b o e n hx);exact⟨sl',e2⟩
 ·obtain⟨o',e1⟩:=I.base.there b o e hx;exact free b o' (neC b o e hx) e1 (I.base.free b o e n hx)
 ·obtain⟨o',e1⟩:=I.base.there b o e hx;exact there b o' (neC b o e hx) e1
 ·obtain⟨m1,e1⟩:=I.base.tbls b ps e;obtain⟨m2,e2⟩:=tbls b _ e1;exact⟨m1++m2,by rw[e2,Array.append_assoc]⟩
 ·obtain⟨m,hn,hl⟩:=I.loc;refine⟨m,ns m hn,fun i x v e1 e2 e3=>?_⟩;obtain⟨u,r,l⟩:=hl i x v e1 e2 e3;refine⟨u,r,?_⟩;rcases l with l | ⟨k,c,e,z⟩
  ·exact .inl l
  ·exact .inr ⟨k,c,e,cellK x c e _ z⟩
 ·obtain⟨v,z⟩:=I.cell x c e;exact⟨v,cellK x c e v z⟩
 ·obtain⟨m,⟨o,_,_,ho,_⟩,_⟩:=I.loc;exact free _ o (fun z=>(hch _ z).2.1 rfl) ho I.free
 ·obtain⟨v,o,ho,hd⟩:=I.cell x c e;exact free c o (fun z=>(hch c z).2.2.1 x c e rfl) ho (I.freeC x c e)
 ·obtain⟨e,n,ne,nf,d⟩:=I.pin p hp;have nch:p.1∉ch:=fun z=>(hch p.1 z).2.2.2 p hp rfl
  exact⟨keep p.1 p.2 ne nf nch e n,free p.1 p.2 nch e n,ne,nf,d⟩
theorem Inv.un {t':Nat}(I:Inv X aA σ H s)(u:Un X.fs [] H H' s.heap h')(hok:HOk X.prog X.w H' h'):Inv X aA σ H' {s with heap:=h',toks:=t'}:=by
 obtain⟨m,⟨o,es,ep,ho,r⟩,_⟩:=id I.loc;obtain⟨sl,hL⟩:=u.any ho I.free (by simp)
 exact I.step (g':=s.gens) (d':=s.drawn) (ch:=[]) (fun _ z=>nomatch z) (fun b o _ hb _ e n=>u.keep b o e n hb (by simp)) (fun b o _ hb _ e n=>u.slot b o e n hb (by simp)) (fun b o _ e n=>u.free b o e n (by simp)) (fun b o _ e=>u.there b o e (by simp)) u.tups u.frzs u.tbls (fun m' hm=>by
  obtain⟨o',es',ep',ho',r'⟩:=hm;rw[ho] at ho';cases ho'
  exact⟨_,es',ep',hL,r'⟩) hok I.bare
theorem Inv.call {g':Array GenState}{t':Nat}{d':Drawn}{ch:List Addr}(I:Inv X aA σ H s)(u:Un (frs X.stack) ch H H' s.heap h')(hok:HOk X.prog X.w H' h')(hg:AllBare g')
  (hch:∀b∈ch,(b∈X.ex\/X.s₀.heap.objs.size<=b)/\b≠X.env.locals/\(∀x c,X.env.cells.lookup x=some c->c≠b)/\∀p∈X.pn++aA,p.1≠b) :
  Inv X aA σ H' {s with heap:=h',gens:=g',drawn:=d',toks:=t'}:=by
 obtain⟨m,⟨o,es,ep,ho,r⟩,_⟩:=id I.loc;obtain⟨sl,hL⟩:=u.any ho I.free fun z=>(hch _ z).2.1 rfl
 exact I.step (ch:=ch) hch (fun b o hL hb hc e n=>u.keep b o e n (fun z=>(xbr.mp (I.stkSub b z)).elim hL hb) hc) (fun b o _ _ hc e n=>u.any e n hc) (fun b o hc e n=>u.free b o e n hc) (fun b o hc e=>u.there b o e hc) u.tups u.frzs u.tbls (fun m' hm=>by
  obtain⟨o',es',ep',ho',r'⟩:=hm;rw[ho] at ho';cases ho'
  exact⟨_,es',ep',hL,r'⟩) hok hg
theorem Inv.turned {t':Nat}{it:Addr}(I:Inv X aA σ H s)(k:∀b o,b≠it->s.heap.get? b=some o->h'.get? b=some o)(hn:H it=none)(hL:it≠X.env.locals)
  (h1:it∈X.ex\/X.s₀.heap.objs.size<=it)(h2:∀x c,X.env.cells.lookup x=some c->c≠it)(h3:∀p∈X.pn++aA,p.1≠it):Inv X aA σ H {s with heap:=h',toks:=t'}:=by
 have nit:∀b u,H b=some u->b≠it:=fun b u e z=>by rw[z,hn] at e;cases e
 refine I.step (g':=s.gens) (d':=s.drawn) (ch:=[it]) (fun b hb=>?_) (fun b o _ _ hc e _=>k b o (fun z=>hc (by simp[z])) e) (fun b o _ _ hc e _=>⟨o.slots,k b o (fun z=>hc (by simp[z])) e⟩) (fun _ _ _ _ n=>n)
  (fun b o hc e=>⟨o,k b o (fun z=>hc (by simp[z])) e⟩) (fun _ _ e=>e) (fun _ _ _ e=>e) (fun b ps e=>⟨#[],by rw[e];simp⟩) (fun m hm=>?_) (fun b u e=>?_) I.bare
 ·have e:b=it:=by simpa using hb
  subst e;exact⟨h1,hL,h2,h3⟩
 ·obtain⟨o,es,ep,ho,r⟩:=hm;exact⟨o,es,ep,k _ o (xel hL) ho,r⟩
 ·refine(I.hok b u e).stay (fun c v hc q=>k c v ?_ q) (fun _ q=>q) fun _ _ q=>q
  rcases hc with z | z
  ·rw[z];exact nit b u e
  ·exact nit c _ z
theorem Inv.tok (I:Inv X aA σ H s)(t:Nat):Inv X aA σ H {s with toks:=t}:=I.un (h':=s.heap) (t':=t) Un.refl I.hok
theorem Inv.kept {t':Nat}(I:Inv X aA σ H s)(k:∀b u,s.heap.get? b=some u->h'.get? b=some u):Inv X aA σ H {s with heap:=h',toks:=t'}:=I.un (Un.kept k) (I.hok.kept k)
theorem Inv.laid {a:Addr}{o:HO}{t':Nat}(I:Inv X aA σ H s)(k:∀b u,s.heap.get? b=some u->h'.get? b=some u)(hp:s.heap.objs.size<=a)(new:ObjOk X.prog X.w (upd H a o) h' a o) :
 Inv X aA σ (upd H a o) {s with heap:=h',toks:=t'}:=I.un (Un.laid k hp (I.hok.fresh hp)) (I.hok.laid k hp new)
theorem Inv.write {x e:Addr}{o:HO}{t':Nat}(I:Inv X aA σ H s)(mu:Mut (H x))(he:e=x\/H e=some (.own x))(k:∀b u,b≠e->s.heap.get? b=some u->h'.get? b=some u)(heo:∃u,h'.get? e=some u)
 (new:ObjOk X.prog X.w (upd H x o) h' x o):Inv X aA σ (upd H x o) {s with heap:=h',toks:=t'}:=I.un (Un.write mu he k heo) (I.hok.write mu he k heo new)
theorem Inv.pins_of {pins':List (Addr×Obj)}(I:Inv X aA σ H s)(h:∀p∈pins',s.heap.get? p.1=some p.2/\H p.1=none/\p.1≠X.env.locals/\p.1∉X.fs/\∀v,p.2.data≠.cell v):Inv X pins' σ H s :=
 ⟨I.ok,I.os,I.bare,I.base,I.loc,I.cell,I.free,I.freeC,fun p hp=>(xch.mp hp).elim (fun z=>I.pin p (xhq _ z)) (h p),I.hok,I.len,I.hnd⟩
theorem zqq {N:List Str}(hN:N.Nodup){i j:Nat}{x:Str}(a:N[i]?=some x)(b:N[j]?=some x):i=j:=by
 obtain⟨h1,e1⟩:=xbc.mp a;obtain⟨h2,e2⟩:=xbc.mp b;exact(xkg hN).mp (e1.trans e2.symm)
theorem znf {M:Model}{A:Around}{E:Value->Shared->Prop}{i:Nat}{x:Str}{v:V}{u:Value}{Q:Unit->Shared->Prop}(I:Inv X aA σ H s)(hN:X.N.Nodup)(hi:X.N[i]?=some x)(hx:Loc X.env.scope x)(r:RelV v u)
  (h:∀s',Inv X aA (σ.set i (some v)) H s'->(∃a,Heap.SameBut a s.heap s'.heap/\(a=X.env.locals\/X.env.cells.lookup x=some a))->Q () s')(hf:X.fn x=true\/X.env.scope.names.lookup x=some .local:=by first | exact .inl rfl | exact .inr rfl | assumption):wpAny M A (storeName X.env x u) Q E s:=by
 obtain⟨m,hn,hl⟩:=id I.loc;have hcls:(X.env.scope.kind==.class||(X.env.scope.kind==.module&&X.env.locals != X.env.globals))=false:=by rw[I.ok.kind];rfl
 have hiσ:i < σ.length:=by rw[I.len];exact(xbc.mp hi).1
 have cne:=I.cne;have tracked:∀{a:Addr} {h':Heap},(∃o,s.heap.get? a=some o/\H a=none)->Heap.SameBut a s.heap h'->HOk X.prog X.w H h':=fun {a h'} ha hs b ob e=>by
  obtain⟨_,_,hfree⟩:=ha;refine(I.hok b ob e).stay (fun c w' hc q=>(hs.2 c ?_).trans q) (fun _ q=>q) fun _ _ q=>q
  rintro rfl;rcases hc with rfl | hc
  ·rw[hfree] at e;cases e
  ·rw[hfree] at hc;cases hc
 rcases hx with hk | hk
 ·refine wpAny_storeName_local hk hn (fun h' hn' hs=>?_) hcls;obtain⟨oL,_,_,hoL,_⟩:=id hn;refine h _ ⟨I.ok,I.os,I.bare,⟨fun b o e n hb hx=>?_,fun b o e n hb hx=>?_,I.base.free,fun b o e hx=>?_,I.base.tups,I.base.frzs,I.base.tbls⟩,⟨_,hn',fun j y v' e1 e2 e3=>?_⟩,fun y c e=>?_,I.free,I.freeC,fun p hp=>?_,tracked ⟨oL,hoL,I.free⟩ hs,by simpa using I.len,I.hnd⟩ ⟨_,hs,.inl rfl⟩
  ·exact(hs.2 b (xca (xbk (xbt e) I.ok.above))).trans (I.base.keep b o e n hb hx)
  ·obtain⟨sl,e1⟩:=I.base.slot b o e n hb hx;exact⟨sl,(hs.2 b (xca (xbk (xbt e) I.ok.above))).trans e1⟩
  ·obtain⟨o',e1⟩:=I.base.there b o e hx;exact⟨o',(hs.2 b (xca (xbk (xbt e) I.ok.above))).trans e1⟩
  ·by_cases hj:j=i
   ·subst hj;rw[hi] at e1;cases e1
    rw[xee hiσ] at e2;cases e2;exact⟨u,r,.inl ⟨hk,by simp⟩⟩
   ·rw[xbi (xel hj)] at e2;obtain⟨u',r',q⟩:=hl j y v' e1 e2 e3;refine⟨u',r',?_⟩;rcases q with⟨k,e⟩ | ⟨k,c,e,z⟩
    ·refine .inl ⟨k,?_⟩;have:y≠x:=fun e=>hj (zqq hN e1 (e ▸ hi))
     simp[this,e]
    ·exact .inr ⟨k,c,e,z.sameBut hs (cne y c e)⟩
  ·obtain⟨w',z⟩:=I.cell y c e;exact⟨w',z.sameBut hs (cne y c e)⟩
  ·obtain⟨e,n,ne,nf,d⟩:=I.pin p hp;exact⟨(hs.2 p.1 ne).trans e,n,ne,nf,d⟩
 ·have hfn:X.fn x=true:=by
   rcases hf with z | z
   ·exact z
   ·rw[z] at hk;cases hk
  obtain⟨c,hc⟩:=I.ok.has x (.inl hk);obtain⟨w',z⟩:=I.cell x c hc;refine wpAny_storeName_cell I.ok.kind hk hc z (fun h' hc' hs=>?_);obtain⟨oc,hoc,hocd⟩:=id z;refine h {s with heap:=h'} ⟨I.ok,I.os,I.bare,⟨fun b o e n hb hx=>?_,fun b o e n hb hx=>?_,I.base.free,fun b o e hx=>?_,I.base.tups,I.base.frzs,I.base.tbls⟩,⟨m,hn.sameBut hs (xel (cne x c hc)),fun j y v' e1 e2 e3=>?_⟩,fun y c' e=>?_,I.free,I.freeC,fun p hp=>?_,tracked ⟨oc,hoc,I.freeC x c hc⟩ hs,by simpa using I.len,I.hnd⟩ ⟨c,hs,.inr hc⟩
  ·exact(hs.2 b (xca (xbk (xbt e) (I.ok.cab x c hfn hc)))).trans (I.base.keep b o e n hb hx)
  ·obtain⟨sl,e1⟩:=I.base.slot b o e n hb hx;exact⟨sl,(hs.2 b (xca (xbk (xbt e) (I.ok.cab x c hfn hc)))).trans e1⟩
  ·obtain⟨o',e1⟩:=I.base.there b o e hx;exact⟨o',(hs.2 b (xca (xbk (xbt e) (I.ok.cab x c hfn hc)))).trans e1⟩
  ·by_cases hj:j=i
   ·subst hj;rw[hi] at e1;cases e1
    rw[xee hiσ] at e2;cases e2;exact⟨u,r,.inr ⟨.inl hk,c,hc,hc'⟩⟩
   ·rw[xbi (xel hj)] at e2;obtain⟨u',r',q⟩:=hl j y v' e1 e2 e3;refine⟨u',r',?_⟩;rcases q with q | ⟨k,c',e,z'⟩
    ·exact .inl q
    ·refine .inr ⟨k,c',e,z'.sameBut hs ?_⟩;rintro rfl;exact hj (zqq hN e1 (I.ok.inj _ _ _ e hc ▸ hi))
  ·by_cases hcc:c'=c
   ·subst hcc;exact⟨_,hc'⟩
   ·obtain⟨w2,z2⟩:=I.cell y c' e;exact⟨w2,z2.sameBut hs hcc⟩
  ·obtain⟨e,n,ne,nf,d⟩:=I.pin p hp;refine⟨(hs.2 p.1 ?_).trans e,n,ne,nf,d⟩;intro q;rw[q,hoc] at e;have q':oc=p.2:=xcp e;exact d w' (by rw[← q'];exact hocd)
theorem zpr {M:Model}{A:Around}{E:Value->Shared->Prop}{i:Nat}{x:Str}{v:V}{u:Value}{Q:Unit->Shared->Prop}(I:Inv X aA σ H s)(hN:X.N.Nodup)(hi:X.N[i]?=some x)(hx:Loc X.env.scope x)(r:RelV v u)
  (h:∀s',Inv X aA (σ.set i (some v)) H s'->Q () s')(hf:X.fn x=true\/X.env.scope.names.lookup x=some .local:=by first | exact .inl rfl | exact .inr rfl | assumption):wpAny M A (storeName X.env x u) Q E s :=
 znf I hN hi hx r (fun s' I' _=>h s' I') hf
theorem Inv.call' {s':Shared}{ch:List Addr}(I:Inv X aA σ H s)(ho:s'.os=s.os)(u:Un (frs X.stack) ch H H' s.heap s'.heap)(hok:HOk X.prog X.w H' s'.heap)(hg:AllBare s'.gens)
  (hch:∀b∈ch,(b∈X.ex\/X.s₀.heap.objs.size<=b)/\b≠X.env.locals/\(∀x c,X.env.cells.lookup x=some c->c≠b)/\∀p∈X.pn++aA,p.1≠b):Inv X aA σ H' s':=by
 obtain⟨h',g',d',t',o'⟩:=s';have e:o'=s.os:=ho;subst e;exact I.call (g':=g') (t':=t') (d':=d') u hok hg hch
end
noncomputable abbrev XK:=Value->Option Addr->Hp->Prop
noncomputable abbrev St:=List (Option V)
noncomputable abbrev VK:=V->Hp->Prop
noncomputable abbrev TE:=St->Hp->VK->Prop
noncomputable abbrev TT:=St->Hp->(Bool->Hp->Prop)->Prop
noncomputable abbrev TA:=St->Hp->(List V->Hp->Prop)->Prop
structure Ends where
 nx:St->Hp->Prop
 rt:VK
 bk:St->Hp->Prop:=fun _ _=>False
 ct:St->Hp->Prop:=fun _ _=>False
noncomputable abbrev TS:=Ends->St->Hp->Prop
noncomputable def EP (X:Cx) (aA:List (Addr×Obj)) (σ:St) (Q:VK) (u:Value) (s':Shared):Prop:=∃v H',Inv X aA σ H' s'/\RelV v u/\Q v H'
noncomputable def TP (X:Cx) (aA:List (Addr×Obj)) (σ:St) (Q:Bool->Hp->Prop) (b:Bool) (s':Shared):Prop:=∃H',Inv X aA σ H' s'/\Q b H'
noncomputable def AP (X:Cx) (aA:List (Addr×Obj)) (σ:St) (Q:List V->Hp->Prop) (us:List Value) (s':Shared):Prop:=∃vs H',Inv X aA σ H' s'/\Vals vs us/\Q vs H'
noncomputable def SP (X:Cx) (aA:List (Addr×Obj)) (D:Ends) (f:Flow) (s':Shared):Prop :=
 match f with
 | .next=>∃σ' H',Inv X aA σ' H' s'/\D.nx σ' H'
 | .brk=>∃σ' H',Inv X aA σ' H' s'/\D.bk σ' H'
 | .cont=>∃σ' H',Inv X aA σ' H' s'/\D.ct σ' H'
 | .ret u=>∃v σ' H',Inv X aA σ' H' s'/\RelV v u/\D.rt v H'
noncomputable def PE (X:Cx) (e:Expr) (t:TE):Prop :=
 ∀(aA:List (Addr×Obj)) (s:Shared) (σ:St) (H:Hp) (Q:VK),Inv X aA σ H s->t σ H Q->wpAny (model X.prog X.w) X.A (eval e X.env) (EP X aA σ Q) X.xe s
noncomputable def PT (X:Cx) (e:Expr) (t:TT):Prop :=
 ∀(aA:List (Addr×Obj)) (s:Shared) (σ:St) (H:Hp) (Q:Bool->Hp->Prop),Inv X aA σ H s->t σ H Q->wpAny (model X.prog X.w) X.A (isTrue e X.env (eval e X.env)) (TP X aA σ Q) X.xe s
noncomputable def PW (X:Cx) (e:Expr) (t:TT):Prop :=
 ∀(whole:Sem Value) (aA:List (Addr×Obj)) (s:Shared) (σ:St) (H:Hp) (Q:Bool->Hp->Prop),Inv X aA σ H s->t σ H Q->wpAny (model X.prog X.w) X.A (isTrue e X.env whole) (TP X aA σ Q) X.xe s
theorem PW.pt {X:Cx}{e:Expr}{t:TT}(h:PW X e t):PT X e t:=h _
noncomputable def PA (X:Cx) (es:List Expr) (t:TA):Prop :=
 ∀(pos:Pos) (aA:List (Addr×Obj)) (s:Shared) (σ:St) (H:Hp) (Q:List V->Hp->Prop),Inv X aA σ H s->t σ H Q->wpAny (model X.prog X.w) X.A (spliced (backTo pos (starEach es X.env))) (AP X aA σ Q) X.xe s
noncomputable def PS (X:Cx) (st:Stmt) (t:TS):Prop :=
 ∀(aA:List (Addr×Obj)) (s:Shared) (σ:St) (H:Hp) (D:Ends),Inv X aA σ H s->t D σ H->wpAny (model X.prog X.w) X.A (exec st X.env) (SP X aA D) X.xe s
noncomputable def PSs (X:Cx) (st:List Stmt) (t:TS):Prop :=
 ∀(aA:List (Addr×Obj)) (s:Shared) (σ:St) (H:Hp) (D:Ends),Inv X aA σ H s->t D σ H->wpAny (model X.prog X.w) X.A (execs st X.env) (SP X aA D) X.xe s
theorem thn {α:Type}{t:Sem α}{Q Q':α->Shared->Prop}{M:Model}{A:Around}{E:Value->Shared->Prop}{s:Shared}(h:wpAny M A t Q E s)(hQ:∀a s,Q a s->Q' a s):wpAny M A t Q' E s:=xdz h hQ fun _ _ x=>x
section
variable {X:Cx}
noncomputable def tVar (i:Nat):TE:=fun σ H Q=>∃v,σ[i]?=some (some v)/\Q v H
noncomputable def tC (v:V):TE:=fun _ H Q=>Q v H
theorem zbgh {i:Nat}{x:Str}{pos:Pos}(hN:X.N[i]?=some x)(hv:Vis X.env.scope x)(hd:(x==("__debug__" : Str))=false:=by decide)(hcd:(x==("__classdict__" : Str))=false:=by decide):PE X (.Name x pos) (tVar i):=by
 intro aA s σ H Q I h;obtain⟨v,e,h⟩:=h;obtain⟨m,hn,hl⟩:=I.loc;obtain⟨u,r,l⟩:=hl i x v hN e hv;have fin:EP X aA σ Q u s:=⟨v,H,I,r,h⟩
 rcases l with⟨hk,hm⟩ | ⟨hk,c,hc,hcell⟩
 ·exact wpAny_Name (wpAny_loadName_local I.ok.kind hk hn hm fin) hd
 ·rcases hk with hk | hk
  ·exact wpAny_Name (wpAny_loadName_cell I.ok.kind hk hc hcell fin) hd
  ·exact wpAny_Name (wpAny_loadName_free I.ok.kind hk hc hcell fin hcd) hd
theorem zbgl {i j pos}:PE X (.Constant (.int i) j pos) (tC (.int i)):=fun _ _ _ H _ I h=>wpAny_Constant_int ⟨.int i,H,I.tok _,⟨_,rfl⟩,h⟩
theorem zbkr {b j pos}:PE X (.Constant (.bool b) j pos) (tC (.bl b)):=fun _ _ _ H _ I h=>Constant_bool ⟨.bl b,H,I,rfl,h⟩
noncomputable def Gl (X:Cx) (x:Str):Prop:=X.env.kindOf x=some .globalImplicit
theorem zvh {E:Value->Shared->Prop}{aA:List (Addr×Obj)}{s:Shared}{σ:St}{H:Hp}{x:Str}{u:Value}{pos:Pos}{Q:Value->Shared->Prop}(I:Inv X aA σ H s)(hg:Gl X x)(hm:X.mg x=some u)(h:Q u s)
  (hd:(x==("__debug__" : Str))=false:=by decide):wpAny (model X.prog X.w) X.A (eval (.Name x pos) X.env) Q E s :=
 Calls.Name_function_global I.ok.kind hg (Calls.loadGlobal_global (by rw[I.ok.glob];exact I.mod.glob.keeps I.bk) hm h) hd
theorem zpe {E:Value->Shared->Prop}{aA:List (Addr×Obj)}{s:Shared}{σ:St}{H:Hp}{x:Str}{u:Value}{pos:Pos}{Q:Value->Shared->Prop}(I:Inv X aA σ H s)(hg:Gl X x)(hm:X.mg x=none)(hv:bootBuiltins x=some u)(h:Q u s)
  (hn:x≠"__name__":=by decide)(hd:(x==("__debug__" : Str))=false:=by decide):wpAny (model X.prog X.w) X.A (eval (.Name x pos) X.env) Q E s:=by
 obtain⟨mb,h1,h2⟩:=I.mod.blt;exact Calls.Name_function_global I.ok.kind hg (Calls.loadGlobal_builtin (by rw[I.ok.glob];exact I.mod.glob.keeps I.bk) hm (by rw[I.ok.blt];exact h1.keeps I.bk) ((h2 x hn).trans hv) h) hd
theorem zbbo {x:Str}{v:V}{u:Value}{pos:Pos}(hg:Gl X x)(hm:X.mg x=some u)(r:RelV v u)(hd:(x==("__debug__" : Str))=false:=by decide):PE X (.Name x pos) (tC v) :=
 fun _ _ _ H _ I h=>zvh I hg hm ⟨v,H,I,r,h⟩ hd
theorem zhi {x:Str}{v:V}{u:Value}{pos:Pos}(hg:Gl X x)(hm:X.mg x=none)(hv:bootBuiltins x=some u)(r:RelV v u)(hn:x≠"__name__":=by decide)(hd:(x==("__debug__" : Str))=false:=by decide):PE X (.Name x pos) (tC v) :=
 fun _ _ _ H _ I h=>zpe I hg hm hv ⟨v,H,I,r,h⟩ hn hd
variable {a b:Expr}{ta tb:TE}{pos:Pos}
noncomputable def PC (X:Cx) (op:CmpOp) (a b:Expr) (t:TE):Prop :=
 ∀(aA:List (Addr×Obj)) (s:Shared) (σ:St) (H:Hp) (Q:VK),Inv X aA σ H s->t σ H Q ->
  wpAny (model X.prog X.w) X.A (eval a X.env) (fun v s₁=>wpAny (model X.prog X.w) X.A (eval b X.env) (fun u s₂=>wpAny (model X.prog X.w) X.A (compareOp op v u) (EP X aA σ Q) X.xe s₂) X.xe s₁) X.xe s
noncomputable def tB (t:TE):TT:=fun σ H Q=>t σ H fun x H1=>∃c,x=.bl c/\Q c H1
theorem zbgm {op:CmpOp}{t:TE}(h:PC X op a b t)(h1:behindInMarks op b=false:=by first | exact nobehind _ (by decide) (by decide) | rfl):PE X (.Compare a [op] [b] pos) t:=fun aA s σ H Q I hw=>wpAny_Compare1 (h aA s σ H Q I hw) h1
theorem zbfx {op:CmpOp}{t:TE}(h:PC X op a b t)(h1:behindInMarks op b=false:=by first | exact nobehind _ (by decide) (by decide) | rfl):PT X (.Compare a [op] [b] pos) (tB t):=by
 intro aA s σ H Q I hw;refine wpAny_isTrue_Compare1 (thn (h aA s σ H _ I hw) fun v s1 h1=>thn h1 fun u s2 h2=>thn h2 fun c s3 hq0=>?_) h1;obtain⟨x,H1,I1,r1,q1⟩:=hq0;obtain⟨d,rfl,q⟩:=q1;cases r1;exact xeh ⟨H1,I1,q⟩
variable {tA tB':TT}{rest:List Expr}
noncomputable def tOr (t u:TT):TT:=fun σ H Q=>t σ H fun c H1=>if c=true then Q true H1 else u σ H1 Q
noncomputable def tNot (t:TT):TT:=fun σ H Q=>t σ H fun c H1=>Q (!c) H1
theorem pw_and1 (ha:PT X a tA):PW X (.BoolOp .And [a] pos) tA:=by
 intro wh aA s σ H Q I h;refine isTrue_and (thn (ha aA s σ H Q I h) fun c s1 e=>?_);cases c with
 | true=>exact isTrue_and_nil e
 | false=>exact e
theorem pw_or1 (ha:PT X a tA):PW X (.BoolOp .Or [a] pos) tA:=by
 intro wh aA s σ H Q I h;refine isTrue_or (thn (ha aA s σ H Q I h) fun c s1 e=>?_);cases c with
 | false=>exact isTrue_or_nil e
 | true=>exact e
theorem pw_or (ha:PT X a tA)(hb:PW X (.BoolOp .Or (b::rest) pos) tB'):PW X (.BoolOp .Or (a::b::rest) pos) (tOr tA tB'):=by
 intro wh aA s σ H Q I h;refine isTrue_or (thn (ha aA s σ H _ I h) fun c s1 hq0=>?_);obtain⟨H1,I1,q1⟩:=hq0;cases c with
 | true=>exact⟨H1,I1,q1⟩
 | false=>exact hb wh aA s1 σ H1 Q I1 q1
theorem zbfw (ha:PT X a tA):PT X (.UnaryOp .Not a pos) (tNot tA):=by
 intro aA s σ H Q I h;exact isTrue_not (ha aA s σ H (fun c H1=>Q (!c) H1) I h)
noncomputable def tAndV (ta tb:TE):TE:=fun σ H Q=>ta σ H fun x H1=>∃c,x=.bl c/\if c=true then tb σ H1 Q else Q (.bl false) H1
noncomputable def tOrV (ta tb:TE):TE:=fun σ H Q=>ta σ H fun x H1=>∃c,x=.bl c/\if c=true then Q (.bl true) H1 else tb σ H1 Q
noncomputable def tNotV (ta:TE):TE:=fun σ H Q=>ta σ H fun x H1=>∃c,x=.bl c/\Q (.bl (!c)) H1
theorem zbgj {op}{t:TE}(h:PE X a t):PE X (.BoolOp op [a] pos) t:=fun aA s σ H Q I hw=>BoolOp_one (h aA s σ H Q I hw)
theorem zbgn (ha:PE X a ta)(hb:PE X (.BoolOp .And (b::rest) pos) tb):PE X (.BoolOp .And (a::b::rest) pos) (tAndV ta tb):=by
 intro aA s σ H Q I h;refine BoolOp_and (thn (ha aA s σ H _ I h) fun v s1 hq0=>?_);obtain⟨x,H1,I1,r1,q1⟩:=hq0;obtain⟨c,rfl,q1⟩:=q1;cases r1;refine xeh ?_;cases c with
 | true=>exact hb aA s1 σ H1 Q I1 q1
 | false=>exact⟨.bl false,H1,I1,rfl,q1⟩
theorem zbko (ha:PE X a ta)(hb:PE X (.BoolOp .Or (b::rest) pos) tb):PE X (.BoolOp .Or (a::b::rest) pos) (tOrV ta tb):=by
 intro aA s σ H Q I h;refine BoolOp_or (thn (ha aA s σ H _ I h) fun v s1 hq0=>?_);obtain⟨x,H1,I1,r1,q1⟩:=hq0;obtain⟨c,rfl,q1⟩:=q1;cases r1;refine xeh ?_;cases c with
 | false=>exact hb aA s1 σ H1 Q I1 q1
 | true=>exact⟨.bl true,H1,I1,rfl,q1⟩
theorem zbgk (ha:PE X a ta):PE X (.UnaryOp .Not a pos) (tNotV ta):=by
 intro aA s σ H Q I h;refine UnaryOp_ (thn (ha aA s σ H _ I h) fun v s1 hq0=>?_);obtain⟨x,H1,I1,r1,q1⟩:=hq0;obtain⟨c,rfl,q1⟩:=q1;cases r1;exact not_of (xeh ⟨.bl (!c),H1,I1,rfl,q1⟩)
noncomputable def tIf (t:TT) (ta tb:TE):TE:=fun σ H Q=>t σ H fun c H1=>if c=true then ta σ H1 Q else tb σ H1 Q
theorem zwu {c:Expr}(hc:PT X c tA)(ha:PE X a ta)(hb:PE X b tb):PE X (.IfExp c a b pos) (tIf tA ta tb):=by
 intro aA s σ H Q I h;refine wpAny_IfExp (thn (hc aA s σ H _ I h) fun d s1 hq0=>?_);obtain⟨H1,I1,q1⟩:=hq0;cases d with
 | true=>exact ha aA s1 σ H1 Q I1 q1
 | false=>exact hb aA s1 σ H1 Q I1 q1
end
noncomputable def SqL (K:Fg) (H:Hp) (a:Addr) (xs:List V):Prop :=
 Rd H a (.lst xs) \/
  ∃(o:Obj) (its:Array Value) (n:Nat), K.lookup a=some o/\o.cls=.type "list"/\o.dict=none/\o.data=.seq its n/\its.size<=sizeLine/\Vals xs its.toList
noncomputable def SqT (K:Fg) (H:Hp) (a:Addr) (xs:List V):Prop :=
 Rd H a (.tup xs) \/
  ∃(o:Obj) (its:Array Value) (n:Nat), K.lookup a=some o/\o.cls=.type "tuple"/\o.data=.seq its n/\its.size<=sizeLine/\Vals xs its.toList
noncomputable def absV:Value->Option V
 | .none=>some .non
 | .bool b=>some (.bl b)
 | .int i _=>some (.int i)
 | .str x _=>some (.str x)
 | .bytes b _=>some (.byt b)
 | .float b _=>some (.flt b)
 | .ref a=>some (.ref a)
 | .type n=>some (.ty n)
 | _=>none
theorem RelV.abs {x:V}{u:Value}(r:RelV x u):absV u=some x:=by
 cases x with
 | non=>cases r;rfl
 | bl _=>cases r;rfl
 | int _=>obtain⟨t,rfl⟩:=r;rfl
 | str _=>obtain⟨t,rfl⟩:=r;rfl
 | byt _=>obtain⟨t,rfl⟩:=r;rfl
 | flt _=>obtain⟨t,rfl⟩:=r;rfl
 | ref _=>cases r;rfl
 | ty _=>cases r;rfl
theorem RelV.inj {x y:V}{u:Value}(r:RelV x u)(q:RelV y u):x=y:=xcp (r.abs.symm.trans q.abs)
theorem Vals.inj:∀{xs ys:List V} {us:List Value},Vals xs us->Vals ys us->xs=ys
 | _,_,_,.nil,.nil=>rfl
 | _,_,_,.cons r t,.cons r' t'=>by rw[r.inj r',Vals.inj t t']
section
variable {X:Cx}{aA:List (Addr×Obj)}{σ:St}{H:Hp}{s:Shared}{a:Addr}{xs ys:List V}
theorem SqL.of {K:Fg}(h:H a=some (.lst xs)):SqL K H a xs:=.inl (.inl h)
theorem SqT.of {K:Fg}(h:H a=some (.tup xs)):SqT K H a xs:=.inl (.inl h)
theorem Inv.list (I:Inv X aA σ H s)(h:SqL X.K H a xs):∃its:List Value,Vals xs its/\PlainL s.heap a its.toArray/\xs.length<=sizeLine:=by
 rcases h with h | ⟨o,its,n,hk,hc,hd,hs,hz,r⟩
 ·obtain⟨z,its,n,r,e⟩:=h.ok I.hok;exact⟨its,r,⟨_,n,e,rfl,rfl,rfl⟩,z⟩
 ·refine⟨its.toList,r,⟨o,n,I.kIn a o hk,hc,hd,by simpa using hs⟩,?_⟩;have e:=r.length;simp only[xcd] at e;lia
theorem Inv.tuple (I:Inv X aA σ H s)(h:SqT X.K H a xs):∃its:List Value,Vals xs its/\IsTup s.heap a its.toArray/\xs.length<=sizeLine:=by
 rcases h with h | ⟨o,its,n,hk,hc,hs,hz,r⟩
 ·obtain⟨z,its,r,p⟩:=h.ok I.hok;exact⟨its,r,p,z⟩
 ·refine⟨its.toList,r,⟨o,I.kIn a o hk,hc,n,by simpa using hs⟩,?_⟩;have e:=r.length;simp only[xcd] at e;lia
theorem Inv.list_inj (I:Inv X aA σ H s)(h:SqL X.K H a xs)(h':SqL X.K H a ys):xs=ys:=by
 obtain⟨its,r,⟨o,n,e,_,_,d⟩,_⟩:=I.list h;obtain⟨its',r',⟨o',n',e',_,_,d'⟩,_⟩:=I.list h';rw[e] at e';cases e'
 rw[d] at d';injection d' with d1 _
 have:its=its':=by simpa using congrArg Array.toList d1
 subst this;exact r.inj r'
theorem Inv.tuple_inj (I:Inv X aA σ H s)(h:SqT X.K H a xs)(h':SqT X.K H a ys):xs=ys:=by
 obtain⟨its,r,⟨o,e,_,n,d⟩,_⟩:=I.tuple h;obtain⟨its',r',⟨o',e',_,n',d'⟩,_⟩:=I.tuple h';rw[e] at e';cases e'
 rw[d] at d';injection d' with d1 _
 have:its=its':=by simpa using congrArg Array.toList d1
 subst this;exact r.inj r'
end
noncomputable abbrev Cx.wish (X:Cx) (E:Value->Shared->Prop):Cx:={X with xe:=E}
noncomputable abbrev Cx.nox (X:Cx):Cx:=X.wish fun _ _=>False
theorem Cx.Ok.wish {X:Cx}(ok:X.Ok)(E:Value->Shared->Prop):(X.wish E).Ok :=
 ⟨ok.mod,ok.kind,ok.glob,ok.blt,ok.above,ok.inj,ok.has,ok.cab,ok.hd,ok.frames,ok.stk,ok.exf,ok.bs,ok.bsz,ok.noex,ok.exfs,ok.funs,ok.frf⟩
theorem Cx.Ok.unwish {X:Cx}{E:Value->Shared->Prop}(ok:(X.wish E).Ok):X.Ok :=
 ⟨ok.mod,ok.kind,ok.glob,ok.blt,ok.above,ok.inj,ok.has,ok.cab,ok.hd,ok.frames,ok.stk,ok.exf,ok.bs,ok.bsz,ok.noex,ok.exfs,ok.funs,ok.frf⟩
section
variable {X:Cx}{aA:List (Addr×Obj)}{σ:St}{H:Hp}{s:Shared}{E:Value->Shared->Prop}
theorem Inv.wish (I:Inv X aA σ H s)(E:Value->Shared->Prop):Inv (X.wish E) aA σ H s:=⟨I.ok.wish E,I.os,I.bare,I.base,I.loc,I.cell,I.free,I.freeC,I.pin,I.hok,I.len,I.hnd⟩
theorem Inv.unwish (I:Inv (X.wish E) aA σ H s):Inv X aA σ H s:=⟨I.ok.unwish,I.os,I.bare,I.base,I.loc,I.cell,I.free,I.freeC,I.pin,I.hok,I.len,I.hnd⟩
theorem SP.unwish {D:Ends}{f:Flow}{s':Shared}(h:SP (X.wish E) aA D f s'):SP X aA D f s':=by
 cases f with
 | next=>obtain⟨σ',H',I,q⟩:=h;exact⟨σ',H',I.unwish,q⟩
 | brk=>obtain⟨σ',H',I,q⟩:=h;exact⟨σ',H',I.unwish,q⟩
 | cont=>obtain⟨σ',H',I,q⟩:=h;exact⟨σ',H',I.unwish,q⟩
 | ret u=>obtain⟨v,σ',H',I,r,q⟩:=h;exact⟨v,σ',H',I.unwish,r,q⟩
theorem PSs.nox {st:List Stmt}{t:TS}(h:PSs X.nox st t):PSs X st t:=fun aA s σ H D I hw =>
 xdz (h aA s σ H D (I.wish _) hw) (fun _ _ q=>q.unwish) fun _ _ z=>False.elim z
end
section
variable {X:Cx}{st:Stmt}{rest:List Stmt}{t u:TS}{e:Expr}{te:TE}{pos:Pos}
noncomputable def tNext:TS:=fun D σ H=>D.nx σ H
noncomputable def tSeq (t u:TS):TS:=fun D σ H=>t {D with nx:=u D} σ H
theorem zbay:PSs X [] tNext:=fun _ _ σ H _ I h=>xjo ⟨σ,H,I,h⟩
theorem zwm (h1:PS X st t)(h2:PSs X rest u):PSs X (st::rest) (tSeq t u):=by
 intro aA s σ H D I h;refine wpAny_execs_cons (thn (h1 aA s σ H {D with nx:=u D} I h) fun f s1 q=>?_);cases f with
 | next =>
  obtain⟨σ',H',I',q⟩:=q;exact h2 aA s1 σ' H' D I' q
 | ret v=>exact q
 | brk=>exact q
 | cont=>exact q
theorem zbax (h1:PS X st t):PSs X [st] t:=by
 intro aA s σ H D I h;refine wpAny_execs_cons (thn (h1 aA s σ H D I h) fun f s1 q=>?_);cases f with
 | next=>exact xjo q
 | ret v=>exact q
 | brk=>exact q
 | cont=>exact q
theorem Inv.quiet {aA:List (Addr×Obj)}{σ:St}{H:Hp}{s:Shared}(I:Inv X aA σ H s):interactive X.env=false:=by simp[interactive,I.ok.kind]
noncomputable def tDrop (te:TE):TS:=fun D σ H=>te σ H fun _ H1=>D.nx σ H1
theorem zbba (he:PE X e te)(hs:swapsWith e none pos.line X.env=pure false:=by rfl):PS X (.Expr e pos) (tDrop te):=by
 intro aA s σ H D I h;exact wpAny_Expr_any (thn (he aA s σ H _ I h) fun v s1 ⟨x,H1,I1,r1,q1⟩=>⟨σ,H1,I1,q1⟩) I.quiet hs
noncomputable def tRet (te:TE):TS:=fun D σ H=>te σ H D.rt
theorem zbgb (he:PE X e te):PS X (.Return (some e) pos) (tRet te):=by
 intro aA s σ H D I h;exact wpAny_Return_some (thn (he aA s σ H _ I h) fun v s1 ⟨x,H1,I1,r1,q1⟩=>⟨x,σ,H1,I1,r1,q1⟩)
noncomputable def tIfS (c:TT) (t u:TS):TS:=fun D σ H=>c σ H fun b H1=>if b=true then t D σ H1 else u D σ H1
theorem zbkl {c:Expr}{a b:List Stmt}{tc:TT}(hc:PT X c tc)(ha:PSs X a t)(hb:PSs X b u):PS X (.If c a b pos) (tIfS tc t u):=by
 intro aA s σ H D I h;refine wpAny_If (thn (hc aA s σ H _ I h) fun d s1 hq0=>?_);obtain⟨H1,I1,q1⟩:=hq0;cases d with
 | true=>exact ha aA s1 σ H1 D I1 q1
 | false=>exact hb aA s1 σ H1 D I1 q1
end
noncomputable abbrev TG:=V->St->Hp->(St->Hp->Prop)->Prop
noncomputable abbrev TGs:=List V->St->Hp->(St->Hp->Prop)->Prop
noncomputable def PG (X:Cx) (target:Expr) (t:TG):Prop :=
 ∀(aA:List (Addr×Obj)) (s:Shared) (σ:St) (H:Hp) (v:V) (u:Value) (Q:St->Hp->Prop),Inv X aA σ H s->RelV v u->t v σ H Q ->
  wpAny (model X.prog X.w) X.A (assign target X.env u) (fun _ s'=>∃σ' H',Inv X aA σ' H' s'/\Q σ' H') X.xe s
noncomputable def PGs (X:Cx) (ts:List Expr) (t:TGs):Prop :=
 ∀(aA:List (Addr×Obj)) (s:Shared) (σ:St) (H:Hp) (vs:List V) (us:List Value) (Q:St->Hp->Prop),Inv X aA σ H s->Vals vs us->t vs σ H Q ->
  wpAny (model X.prog X.w) X.A (assignInOrder ((assignEach ts X.env).map (·.2)) us) (fun _ s'=>∃σ' H',Inv X aA σ' H' s'/\Q σ' H') X.xe s
noncomputable abbrev TSet:=V->V->V->Hp->(Hp->Prop)->Prop
noncomputable def PSet (X:Cx) (t:TSet):Prop :=
 ∀(aA:List (Addr×Obj)) (s:Shared) (σ:St) (H:Hp) (o i v:V) (ov iv u:Value) (Q:Hp->Prop),Inv X aA σ H s->RelV o ov->RelV i iv->RelV v u->t o i v H Q ->
  wpAny (model X.prog X.w) X.A (setItem ov iv u) (fun _ s'=>∃H',Inv X aA σ H' s'/\Q H') X.xe s
section
variable {X:Cx}{pos:Pos}
noncomputable def gName (i:Nat):TG:=fun v σ H Q=>Q (σ.set i (some v)) H
theorem zbbm {i:Nat}{x:Str}(hN:X.N.Nodup)(hi:X.N[i]?=some x)(hx:Loc X.env.scope x)(hf:X.fn x=true\/X.env.scope.names.lookup x=some .local:=by first | exact .inl rfl | exact .inr rfl | assumption):PG X (.Name x pos) (gName i):=by
 intro aA s σ H v u Q I r h;exact wpAny_assign_Name (zpr I hN hi hx r (fun s' I'=>⟨_,H,I',h⟩) hf)
noncomputable def gNil:TGs:=fun vs σ H Q=>vs=[]/\Q σ H
noncomputable def gCons (t:TG) (u:TGs):TGs:=fun vs σ H Q=>∃v r,vs=v::r/\t v σ H fun σ' H'=>u r σ' H' Q
theorem zbbl:PGs X [] gNil:=by
 intro aA s σ H vs us Q I r h;obtain⟨e,h⟩:=h;subst e;cases r;exact assignInOrder_nil ⟨σ,H,I,h⟩
theorem zws {e:Expr}{es:List Expr}{t:TG}{u:TGs}(h1:PG X e t)(h2:PGs X es u)
  (hs:(assignEach (e::es) X.env).map (·.2)=assign e X.env::(assignEach es X.env).map (·.2):=by rfl):PGs X (e::es) (gCons t u):=by
 intro aA s σ H vs us Q I r h;obtain⟨v,vr,e1,h⟩:=h;subst e1;cases r with
 | cons r rr =>
  rw[hs];refine assignInOrder_cons (thn (h1 aA s σ H _ _ _ I r h) fun _ s1 hq0=>?_);obtain⟨σ1,H1,I1,q1⟩:=hq0;exact h2 aA s1 σ1 H1 _ _ Q I1 rr q1
noncomputable def gTup (K:Fg) (n:Nat) (t:TGs):TG:=fun v σ H Q=>∃a xs,v=.ref a/\SqT K H a xs/\xs.length=n/\t xs σ H Q
theorem zbgf {es:List Expr}{k:Nat}{t:TGs}{n:Nat}(hc:X.calm=true)(h:PGs X es t)
  (hn:(assignEach es X.env).length=n:=by rfl)(hst:(assignEach es X.env).findIdx? (·.1)=none:=by rfl):PG X (.Tuple es k pos) (gTup X.K n t):=by
 intro aA s σ H v u Q I r hw;obtain⟨a,xs,e1,hq,hl,hw⟩:=hw;subst e1;cases r;obtain⟨its,rv,ht,hz⟩:=I.tuple hq;refine assign_Tuple_tuple (I.ok.hd hc) ht (by simp[hn,← hl,rv.length]) hst fun h' hx=>?_
 have I1:Inv X aA σ H {s with heap:=h'}:=I.kept (t':=s.toks) fun b o e=>hx b o (xca (xbt e)) e
 exact h aA _ σ H xs _ Q I1 (by simpa using rv) hw
noncomputable def gSub (to ti:TE) (t:TSet):TG:=fun v σ H Q=>to σ H fun o H1=>ti σ H1 fun i H2=>t o i v H2 fun H3=>Q σ H3
theorem zbgg {o i:Expr}{to ti:TE}{t:TSet}(ho:PE X o to)(hi:PE X i ti)(hs:PSet X t)
  (ha:∀v,assign (.Subscript o i pos) X.env v=(do
   let ov ← holding [v] (eval o X.env)
   let iv ← holding [v,ov] (eval i X.env)
   standAt pos
   holding [v,ov,iv] (setItem ov iv v)
   release [v,ov,iv] []):=by intro _;rfl):PG X (.Subscript o i pos) (gSub to ti t):=by
 intro aA s σ H v u Q I r h;rw[ha];refine xba (xen (thn (ho aA s σ H _ I h) fun ov s1 hq0=>?_));obtain⟨x,H1,I1,r1,q1⟩:=hq0;refine xba (xen (thn (hi aA s1 σ H1 _ I1 q1) fun iv s2 hq0=>?_));obtain⟨y,H2,I2,r2,q2⟩:=hq0;refine xba (xka (xba (xen (thn (hs aA s2 σ H2 x y v ov iv u _ I2 r1 r2 r q2) fun _ s3 hq0=>?_))));obtain⟨H3,I3,q3⟩:=hq0;exact wpAny_release ⟨σ,H3,I3,q3⟩
noncomputable def tAsg (te:TE) (g:TG):TS:=fun D σ H=>te σ H fun x H1=>g x σ H1 D.nx
theorem zbgd {tg e:Expr}{te:TE}{g:TG}(he:PE X e te)(hg:PG X tg g)(hs:swapsWithSole [tg] e pos.line X.env=pure false:=by rfl)(hw:swappedStores [tg] e X.env=pure none:=by rfl)
  (h1:(assignEach [tg] X.env).map (·.2)=[assign tg X.env]:=by rfl):PS X (.Assign [tg] e pos) (tAsg te g):=by
 intro aA s σ H D I h;refine wpAny_Assign_stores (thn (he aA s σ H _ I h) fun v s1 hq0=>?_) hs hw;obtain⟨x,H1,I1,r1,q1⟩:=hq0;rw[h1];exact thn (hg aA s1 σ H1 x v _ I1 r1 q1) fun _ s2 q=>q
theorem zbga {i:Nat}{x:Str}{e:Expr}{te:TE}{pos':Pos}(hN:X.N.Nodup)(hi:X.N[i]?=some x)(hx:Loc X.env.scope x)(he:PE X e te)(hs:swapsWith e (some (.Name x pos')) pos.line X.env=pure false:=by rfl)(hf:X.fn x=true\/X.env.scope.names.lookup x=some .local:=by first | exact .inl rfl | exact .inr rfl | assumption) :
  PS X (.Assign [.Name x pos'] e pos) (tAsg te (gName i)):=by
 intro aA s σ H D I h;refine wpAny_Assign_Name (thn (he aA s σ H _ I h) fun v s1 hq0=>?_) hs;obtain⟨y,H1,I1,r1,q1⟩:=hq0;exact zpr I1 hN hi hx r1 (fun s2 I2=>⟨_,H1,I2,q1⟩) hf
noncomputable def tWhile (c:TT) (tb:TS):TS:=fun D σ H=>∃W:Nat->St->Hp->Prop,(∃m,W m σ H)/\∀m σ H,W m σ H ->
 c σ H fun b H1=>if b=true then ∃N:St->Hp->Prop,(∀σ' H',N σ' H'->∃m',m' < m/\W m' σ' H')/\tb {D with nx:=N,ct:=N,bk:=D.nx} σ H1 else D.nx σ H1
theorem zwn {c:Expr}{body:List Stmt}{tc:TT}{tb:TS}(hp:PassesOwn (model X.prog X.w) X.A X.env X.xe)(hc:PT X c tc)(hb:PSs X body tb):PS X (.While c body [] pos) (tWhile tc tb):=by
 intro aA s σ H D I h;obtain⟨W,⟨m0,w0⟩,turn⟩:=h;refine wpAny_While (codeAny_whileLoop (fun n s'=>∃σ' H',Inv X aA σ' H' s'/\W n σ' H') ?_ m0 ⟨σ,H,I,w0⟩);rintro n s1 ⟨σ1,H1,I1,w1⟩;refine xgd hp (thn (hc aA s1 σ1 H1 _ I1 (turn n σ1 H1 w1)) fun b s2 hq0=>?_);obtain⟨H2,I2,q2⟩:=hq0;cases b with
 | true =>
  obtain⟨N,hN,q2⟩:=q2;rw[if_pos rfl];refine xgd hp (thn (hb aA s2 σ1 H2 _ I2 q2) fun f s3 q3=>?_);cases f with
  | next =>
   obtain⟨σ3,H3,I3,n3⟩:=q3;obtain⟨m',hm,w3⟩:=hN σ3 H3 n3;exact⟨m',hm,σ3,H3,I3,w3⟩
  | cont =>
   obtain⟨σ3,H3,I3,n3⟩:=q3;obtain⟨m',hm,w3⟩:=hN σ3 H3 n3;exact⟨m',hm,σ3,H3,I3,w3⟩
  | brk=>exact q3
  | ret v=>exact q3
 | false =>
  rw[if_neg xeq];exact xjo ⟨σ1,H2,I2,q2⟩
end
structure It where
 go:Nat->Hp->Prop
 yld:Nat->Hp->V->Hp->Prop
 stop:Nat->Hp->Prop
noncomputable def FpOk (X:Cx) (aA:List (Addr×Obj)) (H:Hp) (b:Addr):Prop :=
 H b=none/\b≠X.env.locals/\b∉X.fs/\(b∈X.ex\/X.s₀.heap.objs.size<=b)/\(∀x c,X.env.cells.lookup x=some c->c≠b)/\∀p∈X.pn++aA,p.1≠b
theorem Inv.fpOk {X:Cx}{aA:List (Addr×Obj)}{σ:St}{H H':Hp}{s:Shared}{b:Addr}(I:Inv X aA σ H s)(hb:s.heap.objs.size<=b)(hn:H' b=none):FpOk X aA H' b:=by
 refine⟨hn,xkh (xbk I.lt hb),I.nofs hb,.inr (xbb I.sz hb),fun x c e z=>?_,fun p hp z=>?_⟩
 ·obtain⟨v,q⟩:=I.cell x c e;exact absurd (xbk q.lt (by rw[z];exact hb)) (xge _)
 ·exact absurd (xbk (xbt (I.pin p hp).1) (by rw[z];exact hb)) (xge _)
structure Turn (P:Program) (w:World) (K:Fg) (tg:Expr) (J:It) (fp:List Addr) (it:Addr) (tn:Nat->Heap->Prop):Prop where
 mem:it∈fp
 obj:∀i h,tn i h->∀b∈fp,∃o,h.get? b=some o/\∀v,o.data≠.cell v
 keep:∀i h h',tn i h->(∀b∈fp,∀o,h.get? b=some o->h'.get? b=some o)->tn i h'
 item:∀(X:Cx),X.prog=P->X.w=w->X.K=K->X.calm=true->∀(i:Nat) (aA:List (Addr×Obj)) (s:Shared) (σ:St) (H:Hp) (E:Value->Shared->Prop),Inv X aA σ H s->(∀b∈fp,FpOk X aA H b)->tn i s.heap->J.go i H ->
  wpAny (model P w) X.A (pyNext (.ref it)) (fun r s1=>∃u,r=some u /\
   wpAny (model P w) X.A (letOwnedTupleGo tg (.ref it) u) (fun _ s2=>∃x H',Inv X aA σ H' s2/\RelV x u/\J.yld i H x H'/\tn (i+1) s2.heap/\∀b∈fp,H' b=none) E s1) E s
 done:∀(X:Cx),X.prog=P->X.w=w->X.K=K->X.calm=true->∀(i:Nat) (aA:List (Addr×Obj)) (s:Shared) (σ:St) (H:Hp) (E:Value->Shared->Prop),Inv X aA σ H s->(∀b∈fp,FpOk X aA H b)->tn i s.heap->J.stop i H ->
  wpAny (model P w) X.A (pyNext (.ref it)) (fun r s1=>r=none/\Inv X aA σ H s1) E s
 self:∀(A:Around) (i:Nat) (s:Shared) (Q:Value->Shared->Prop) (E:Value->Shared->Prop),tn i s.heap->Q (.ref it) s->wpAny (model P w) A (pyIter (.ref it)) Q E s
noncomputable abbrev TI:=St->Hp->(It->Hp->Prop)->Prop
noncomputable def PIE (X:Cx) (aA:List (Addr×Obj)) (σ:St) (tg:Expr) (R:It->Hp->Prop) (itv:Value) (s2:Shared):Prop :=
 ∃(it:Addr) (fp:List Addr) (tn:Nat->Heap->Prop) (J:It) (H':Hp),itv=.ref it/\Inv X aA σ H' s2/\Turn X.prog X.w X.K tg J fp it tn/\tn 0 s2.heap/\(∀b∈fp,FpOk X aA H' b)/\R J H'
noncomputable def PI (X:Cx) (tg iter:Expr) (wi:TI):Prop :=
 ∀(aA:List (Addr×Obj)) (s:Shared) (σ:St) (H:Hp) (R:It->Hp->Prop),Inv X aA σ H s->wi σ H R ->
  wpAny (model X.prog X.w) X.A (eval iter X.env) (fun v s1=>wpAny (model X.prog X.w) X.A (pyIter v) (PIE X aA σ tg R) X.xe s1) X.xe s
theorem zbfd {M:Model}{A:Around}{E:Value->Shared->Prop}{s:Shared}{tg:Expr}{it:Addr}{u:Value}{o:Obj}{n:String}{vs:Array Value}{Q:Unit->Shared->Prop}(ho:s.heap.get? it=some o)(hc:o.cls=.type n)(hd:o.data=.fields vs)
    (hn:["enumerate", "zip", "dict_itemiterator", "dict_reverseitemiterator", "odict_iterator", "itertools.zip_longest", "itertools.pairwise"].contains n=false)(hQ:Q () s):wpAny M A (letOwnedTupleGo tg (.ref it) u) Q E s:=by
  unfold letOwnedTupleGo;cases tg <;> first
    | exact xbl hQ
    | (cases u <;> first
        | exact xbl hQ
        | (refine xba (wpAny_load ho ?_)
           rw[hc, hd];show wpAny M A (if(["enumerate", "zip", "dict_itemiterator", "dict_reverseitemiterator", "odict_iterator", "itertools.zip_longest", "itertools.pairwise"].contains n&&vs[0]?==some (rawInt _))=true then _ else _) Q E s
           rw[if_neg (by intro h; rw[hn, Bool.false_and] at h; cases h)]
           exact xbl hQ))
noncomputable def Itl (K:Fg) (a:Addr):It :=
 ⟨fun i H=>∃xs x,SqL K H a xs/\xs[i]?=some x,fun i H x H'=>H'=H/\∀xs,SqL K H a xs->xs[i]?=some x,fun i H=>∃xs,SqL K H a xs/\xs.length<=i⟩
noncomputable def Itt (K:Fg) (a:Addr):It :=
 ⟨fun i H=>∃xs x,SqT K H a xs/\xs[i]?=some x,fun i H x H'=>H'=H/\∀xs,SqT K H a xs->xs[i]?=some x,fun i H=>∃xs,SqT K H a xs/\xs.length<=i⟩
noncomputable def Itr (lo:Int) (n:Nat):It:=⟨fun i _=>i < n,fun i H x H'=>H'=H/\x=.int (lo+i),fun i _=>n<=i⟩
theorem zsk {P:Program}{w:World}{K:Fg}{tg:Expr}(a it:Addr):Turn P w K tg (Itl K a) [it] it (fun i h=>h.IsListIter it a i) where
 mem:=by simp
 obj:=fun i h st b hb=>by
  have e:b=it:=by simpa using hb
  subst e;obtain⟨o,e,c,d⟩:=st;exact⟨o,e,fun v z=>by rw[d] at z;cases z⟩
 keep:=fun i h h' st k=>st.at fun o e=>k it (by simp) o e
 item:=by
  intro X hP hw hK hc i aA s σ H E I hf st hg;subst hP hw hK;obtain⟨xs,x,hq,hx⟩:=hg;obtain⟨its,rv,p,hz⟩:=I.list hq;obtain⟨u,hu,ru⟩:=rv.get hx;obtain⟨f0,f1,f2,f3,f4,f5⟩:=hf it (by simp);refine wpAny_pyNext_list_item st p.isList (x:=u) (by simpa using hu) fun h' st' sb=>?_
  have I1:Inv X aA σ H {s with heap:=h'}:=I.turned (t':=s.toks) (fun b o hb e=>(sb.2 b hb).trans e) f0 f1 f3 f4 f5;obtain⟨o,e,c,d⟩:=id st';exact⟨u,rfl,zbfd (s:={s with heap:=h'}) e c d (by decide) ⟨x,H,I1,ru,⟨rfl,fun ys hy=>by rw[I.list_inj hy hq];exact hx⟩,st',fun b hb=>(hf b hb).1⟩⟩
 done:=by
  intro X hP hw hK hc i aA s σ H E I hf st hg;subst hP hw hK;obtain⟨xs,hq,hx⟩:=hg;obtain⟨its,rv,p,hz⟩:=I.list hq;obtain⟨f0,f1,f2,f3,f4,f5⟩:=hf it (by simp);have hl:=rv.length;exact wpAny_pyNext_list_end (I.ok.hd hc) st p.isList (by simp;lia) fun h' eb=>⟨rfl,I.turned (t':=s.toks) (fun b o hb e=>eb b o hb e) f0 f1 f3 f4 f5⟩
 self:=fun _ _ _ _ _ st h=>wpAny_pyIter_listiter st h
theorem zpo {P:Program}{w:World}{K:Fg}{tg:Expr}(a it:Addr):Turn P w K tg (Itt K a) [it] it (fun i h=>h.IsTupleIter it a i) where
 mem:=by simp
 obj:=fun i h st b hb=>by
  have e:b=it:=by simpa using hb
  subst e;obtain⟨o,e,c,d⟩:=st;exact⟨o,e,fun v z=>by rw[d] at z;cases z⟩
 keep:=fun i h h' st k=>st.at fun o e=>k it (by simp) o e
 item:=by
  intro X hP hw hK hc i aA s σ H E I hf st hg;subst hP hw hK;obtain⟨xs,x,hq,hx⟩:=hg;obtain⟨its,rv,p,hz⟩:=I.tuple hq;obtain⟨u,hu,ru⟩:=rv.get hx;obtain⟨f0,f1,f2,f3,f4,f5⟩:=hf it (by simp);refine wpAny_pyNext_tuple_item st (show s.heap.IsTuple a its.toArray from p) (x:=u) (by simpa using hu) fun h' st' sb=>?_
  have I1:Inv X aA σ H {s with heap:=h'}:=I.turned (t':=s.toks) (fun b o hb e=>(sb.2 b hb).trans e) f0 f1 f3 f4 f5;obtain⟨o,e,c,d⟩:=id st';exact⟨u,rfl,zbfd (s:={s with heap:=h'}) e c d (by decide) ⟨x,H,I1,ru,⟨rfl,fun ys hy=>by rw[I.tuple_inj hy hq];exact hx⟩,st',fun b hb=>(hf b hb).1⟩⟩
 done:=by
  intro X hP hw hK hc i aA s σ H E I hf st hg;subst hP hw hK;obtain⟨xs,hq,hx⟩:=hg;obtain⟨its,rv,p,hz⟩:=I.tuple hq;obtain⟨f0,f1,f2,f3,f4,f5⟩:=hf it (by simp);have hl:=rv.length;exact wpAny_pyNext_tuple_end (I.ok.hd hc) st (show s.heap.IsTuple a its.toArray from p) (by simp;lia) fun h' eb=>⟨rfl,I.turned (t':=s.toks) (fun b o hb e=>eb b o hb e) f0 f1 f3 f4 f5⟩
 self:=fun _ _ _ _ _ st h=>wpAny_pyIter_tupleiter st h
theorem zpp {P:Program}{w:World}{K:Fg}{tg:Expr}(it:Addr)(lo:Int)(n:Nat):Turn P w K tg (Itr lo n) [it] it (fun i h=>IsRangeIter h it (lo+(i:Nat) * 1) ((n:Int) - (i:Nat)) 1) where
 mem:=by simp
 obj:=fun i h st b hb=>by
  have e:b=it:=by simpa using hb
  subst e
  exact⟨_,st,fun v z=>by
   have z':Data.fields _=Data.cell v:=z
   cases z'⟩
 keep:=fun i h h' st k=>k it (by simp) _ st
 item:=by
  intro X hP hw hK hc i aA s σ H E I hf st hg;subst hP hw hK;obtain⟨f0,f1,f2,f3,f4,f5⟩:=hf it (by simp);have W:=Walks.range (prog:=X.prog) (w:=X.w) (I.ok.hd hc) it lo 1 n;refine W.item i s _ _ hg st fun v h' tk hv st' kk=>?_
  obtain⟨t,rfl⟩:=hv;have I1:Inv X aA σ H {s with heap:=h',toks:=tk}:=I.turned (fun b o hb e=>kk b o (by simpa using hb) e) f0 f1 f3 f4 f5;refine⟨_, rfl, zbfd (s:={ s with heap:=h', toks:=tk }) (n:="range_iterator") st' rfl rfl (by decide) ⟨.int (lo + i), H, I1,⟨t, ?_⟩,⟨rfl, rfl⟩, st', fun b hb=>(hf b hb).1⟩⟩
  rw[Int.mul_one]
 done:=by
  intro X hP hw hK hc i aA s σ H E I hf st hg;subst hP hw hK;obtain⟨f0,f1,f2,f3,f4,f5⟩:=hf it (by simp);exact wpAny_pyNext_range_end (I.ok.hd hc) st (by have:n<=i:=hg;lia) fun h' eb=>⟨rfl,I.turned (t':=s.toks) (fun b o hb e=>eb b o hb e) f0 f1 f3 f4 f5⟩
 self:=fun _ _ _ _ _ st h=>wpAny_pyIter_rangeiter st h
section
variable {X:Cx}{tg:Expr}
noncomputable def iList (K:Fg) (tl:TE):TI:=fun σ H R=>tl σ H fun x H1=>∃a,x=.ref a/\(∃xs,SqL K H1 a xs)/\R (Itl K a) H1
noncomputable def iTup (K:Fg) (tl:TE):TI:=fun σ H R=>tl σ H fun x H1=>∃a,x=.ref a/\(∃xs,SqT K H1 a xs)/\R (Itt K a) H1
theorem zbbi {l:Expr}{tl:TE}(hl:PE X l tl):PI X tg l (iList X.K tl):=by
 intro aA s σ H R I h;refine thn (hl aA s σ H _ I h) fun v s1 hq0=>?_
 obtain⟨x,H1,I1,r1,q1⟩:=hq0;obtain⟨a,e,⟨xs,hq⟩,q⟩:=q1;subst e;cases r1;obtain⟨its,rv,p,hz⟩:=I1.list hq;refine xke p.isList ?_;refine⟨s1.heap.objs.size,[s1.heap.objs.size],_,_,H1,rfl,I1.kept (t':=s1.toks) fun b o e=>xbo _ e,zsk a _,⟨_,xce _ rfl,rfl,rfl⟩,fun b hb=>?_,q⟩;have e:b=s1.heap.objs.size:=by simpa using hb
 subst e;exact I1.fpOk (xbg _) (I1.hok.fresh (xbg _))
theorem zbge {l:Expr}{tl:TE}(hl:PE X l tl):PI X tg l (iTup X.K tl):=by
 intro aA s σ H R I h;refine thn (hl aA s σ H _ I h) fun v s1 hq0=>?_
 obtain⟨x,H1,I1,r1,q1⟩:=hq0;obtain⟨a,e,⟨xs,hq⟩,q⟩:=q1;subst e;cases r1;obtain⟨its,rv,p,hz⟩:=I1.tuple hq;refine xij (show s1.heap.IsTuple a its.toArray from p) ?_;refine⟨s1.heap.objs.size,[s1.heap.objs.size],_,_,H1,rfl,I1.kept (t':=s1.toks) fun b o e=>xbo _ e,zpo a _,⟨_,xce _ rfl,rfl,rfl⟩,fun b hb=>?_,q⟩;have e:b=s1.heap.objs.size:=by simpa using hb
 subst e;exact I1.fpOk (xbg _) (I1.hok.fresh (xbg _))
theorem zqd {aA:List (Addr×Obj)}{σ:St}{H:Hp}{s:Shared}{R:It->Hp->Prop}{E:Value->Shared->Prop}{lo hi:Int}{t u v:Tok}{tk:Nat}(I:Inv X aA σ H s)(h1:-(2 ^ 62)<=lo)(h2:lo < 2 ^ 62)(h3:-(2 ^ 62)<=hi)(h4:hi < 2 ^ 62)
  (q:R (Itr lo (hi - lo).toNat) H):wpAny (model X.prog X.w) X.A (pyIter (.ref s.heap.objs.size)) (PIE X aA σ tg R) E { s with heap:=s.heap.push { cls:=.type "range", data:=.fields #[.int lo t, .int hi u, .int 1 v] }, toks:=tk }:=by
 refine wpAny_pyIter_range (IsRange.new ..) (small_one h1 h2 h3 h4) ?_;have I1:Inv X aA σ H { s with heap:=s.heap.push { cls:=.type "range", data:=.fields #[.int lo t, .int hi u, .int 1 v] }, toks:=tk }:=I.kept fun b o e=>xbo _ e
 refine⟨(s.heap.push { cls:=.type "range", data:=.fields #[.int lo t, .int hi u, .int 1 v] }).objs.size,[(s.heap.push { cls:=.type "range", data:=.fields #[.int lo t, .int hi u, .int 1 v] }).objs.size], _, _, H, rfl,
  I1.kept (t':=tk) fun b o e=>xbo _ e,zpp _ lo (hi - lo).toNat,?_,fun b hb=>?_,q⟩
 ·have e1:lo+((0:Nat):Int) * 1=lo:=by simp
  have e2:(((hi - lo).toNat:Nat):Int) - ((0:Nat):Int)=Builtin.Range.rangeSize lo hi 1:=by rw[rangeSize_one];split<;>lia
  show IsRangeIter _ _ (lo+((0:Nat):Int) * 1) ((((hi - lo).toNat:Nat):Int) - ((0:Nat):Int)) 1;rw[e1,e2];exact xce _ rfl
 ·have e:b=(s.heap.push { cls:=.type "range", data:=.fields #[.int lo t, .int hi u, .int 1 v] }).objs.size:=by simpa using hb
  subst e;exact I1.fpOk (xbg _) (I1.hok.fresh (xbg _))
noncomputable def iRng1 (ta:TA):TI:=fun σ H R=>ta σ H fun vs H1=>∃j:Int,vs=[.int j]/\-(2 ^ 62)<=j/\j < 2 ^ 62/\R (Itr 0 j.toNat) H1
noncomputable def iRng2 (ta:TA):TI:=fun σ H R=>ta σ H fun vs H1=>∃i j:Int,vs=[.int i,.int j]/\(-(2 ^ 62)<=i/\i < 2 ^ 62/\-(2 ^ 62)<=j/\j < 2 ^ 62)/\R (Itr i (j - i).toNat) H1
theorem zsz {a:Expr}{ta:TA}{p pos:Pos}(hg:Gl X "range")(hm:X.mg "range"=none)(ha:PA X [a] ta)(hs:starEach [a] X.env=[(false, eval a X.env)]:=by rfl):PI X tg (.Call (.Name "range" p) [a] [] pos) (iRng1 ta):=by
 intro aA s σ H R I h;refine Call_ (zpe I hg hm boot_range (xhp (thn (ha pos aA s σ H _ I h) fun us s1 hq0=>?_) hs rfl));obtain⟨vs,H1,I1,r1,q1⟩:=hq0;obtain⟨j,e,q1,q2,q⟩:=q1;subst e;cases r1 with
 | cons r rr =>
  cases rr;obtain⟨t,rfl⟩:=r;exact call_range_1 (zqd I1 (by lia) (by lia) q1 q2 (by simpa using q))
theorem zsy {a b:Expr}{ta:TA}{p pos:Pos}(hg:Gl X "range")(hm:X.mg "range"=none)(ha:PA X [a, b] ta)(hs:starEach [a, b] X.env=[(false, eval a X.env),(false, eval b X.env)]:=by rfl)(hs2:starEach [b] X.env=[(false, eval b X.env)]:=by rfl) :
  PI X tg (.Call (.Name "range" p) [a, b] [] pos) (iRng2 ta):=by
 intro aA s σ H R I h;refine Call_ (zpe I hg hm boot_range (xhp (thn (ha pos aA s σ H _ I h) fun us s1 ⟨vs,H1,I1,r1,q1⟩=>?_) (by rw[hs,hs2]) (by rw[hs2];rfl)));obtain⟨i,j,e,⟨q1,q2,q3,q4⟩,q⟩:=q1;subst e;cases r1 with
 | cons r rr =>
  cases rr with
  | cons r' rr =>
   cases rr;obtain⟨t,rfl⟩:=r;obtain⟨t',rfl⟩:=r';exact call_range_2 (zqd I1 q1 q2 q3 q4 q)
noncomputable def tFor (wi:TI) (g:TG) (tb:TS):TS:=fun D σ H=>wi σ H fun J H1=>∃W:Nat->Nat->St->Hp->Prop,(∃m,W 0 m σ H1)/\∀i m σ H,W i m σ H ->
 (J.stop i H/\D.nx σ H)\/(J.go i H/\∃N:St->Hp->Prop,(∀σ' H',N σ' H'->∃m',m' < m/\W (i+1) m' σ' H')/\∀x H',J.yld i H x H'->g x σ H' fun σ2 H2=>tb {D with nx:=N,ct:=N,bk:=D.nx} σ2 H2)
noncomputable def pinsAt (fp:List Addr) (h:Heap):List (Addr×Obj):=fp.filterMap fun b=>(h.get? b).map fun o=>(b,o)
theorem zfh {fp:List Addr}{h:Heap}{b:Addr}{o:Obj}(hb:b∈fp)(e:h.get? b=some o):(b,o)∈pinsAt fp h:=List.mem_filterMap.mpr ⟨b,hb,by rw[e];rfl⟩
theorem ztf {fp:List Addr}{h:Heap}{p:Addr×Obj}(hp:p∈pinsAt fp h):p.1∈fp/\h.get? p.1=some p.2:=by
 obtain⟨b,hb,e⟩:=List.mem_filterMap.mp hp;cases q:h.get? b with
 | none=>rw[q] at e;cases e
 | some o =>
  rw[q] at e;have e':(b,o)=p:=xcp e;subst e';exact⟨hb,q⟩
theorem Inv.pinned {aA:List (Addr×Obj)}{σ:St}{H:Hp}{s:Shared}{fp:List Addr}(I:Inv X aA σ H s)(hf:∀b∈fp,FpOk X aA H b)(ho:∀b∈fp,∃o,s.heap.get? b=some o/\∀v,o.data≠.cell v):Inv X (aA++pinsAt fp s.heap) σ H s :=
 I.pins_of fun p hp=>(xch.mp hp).elim (fun z=>I.pin p (xde _ z)) fun z=>by
  obtain⟨hb,e⟩:=ztf z;obtain⟨f0,f1,f2,_⟩:=hf p.1 hb;obtain⟨o,e',d⟩:=ho p.1 hb;rw[e] at e';cases e'
  exact⟨e,f0,f1,f2,d⟩
theorem Inv.unpinned {aA pl:List (Addr×Obj)}{σ:St}{H:Hp}{s:Shared}(I:Inv X (aA++pl) σ H s):Inv X aA σ H s:=I.pins_of fun p hp=>I.pin p (xde _ (xhq _ hp))
theorem zbgc {iter:Expr}{body:List Stmt}{wi:TI}{g:TG}{tb:TS}{pos:Pos}(hp:PassesOwn (model X.prog X.w) X.A X.env X.xe)(hc:X.calm=true)(hi:PI X tg iter wi)(hg:PG X tg g)(hb:PSs X body tb)
  (hs:∀x,foldedSetIterable iter X.env x=pure x:=by intro _;rfl):PS X (.For tg iter body [] pos) (tFor wi g tb):=by
 intro aA s σ H D I h;refine wpAny_For (thn (hi aA s σ H _ I h) fun v s1 h1=>thn h1 fun itv s2 h2=>?_) hs;obtain⟨it,fp,tn,J,H2,e,I2,T,st2,f2,W,⟨m0,w0⟩,turn⟩:=h2;subst e;have stat:∀{H':Hp},(∀b∈fp,H' b=none)->∀b∈fp,FpOk X aA H' b:=fun hn b hb=>⟨hn b hb,(f2 b hb).2⟩
 refine codeAny_forLoop_any (fun n s'=>∃i σ' H',Inv X aA σ' H' s'/\tn i s'.heap/\(∀b∈fp,H' b=none)/\W i n σ' H') ?_ m0 ⟨0,σ,H2,I2,st2,fun b hb=>(f2 b hb).1,w0⟩;rintro n s3 ⟨i,σ3,H3,I3,st3,fr3,w3⟩;rcases turn i n σ3 H3 w3 with⟨stop,qn⟩ | ⟨go,N,hN,step⟩
 ·refine xgd hp (thn (T.done X rfl rfl rfl hc i aA s3 σ3 H3 X.xe I3 (stat fr3) st3 stop) fun r s4 hq0=>?_);obtain⟨hr,I4⟩:=hq0;subst hr;exact xjo ⟨σ3,H3,I4,qn⟩
 ·refine xgd hp (thn (T.item X rfl rfl rfl hc i aA s3 σ3 H3 X.xe I3 (stat fr3) st3 go) fun r s4 hq0=>?_);obtain⟨u,hr,h4⟩:=hq0;subst hr;refine xgd hp (thn h4 fun _ s5 hq0=>?_);obtain⟨x,H5,I5,r5,y5,st5,fr5⟩:=hq0;have I5':=I5.pinned (stat fr5) (T.obj _ _ st5);refine xgd hp (thn (hg _ s5 σ3 H5 x u _ I5' r5 (step x H5 y5)) fun _ s6 hq0=>?_);obtain⟨σ6,H6,I6,q6⟩:=hq0;refine xgd hp (thn (hb _ s6 σ6 H6 _ I6 q6) fun f s7 q7=>?_);have again:∀{σ7:St} {H7:Hp},Inv X (aA++pinsAt fp s5.heap) σ7 H7 s7->N σ7 H7->∃m,m < n/\∃i σ' H',Inv X aA σ' H' s7/\tn i s7.heap/\(∀b∈fp,H' b=none)/\W i m σ' H':=fun {σ7 H7} I7 n7=>by
   obtain⟨m',hm,w7⟩:=hN σ7 H7 n7;refine⟨m',hm,i+1,σ7,H7,I7.unpinned,T.keep _ _ _ st5 fun b hb o e=>(I7.pin (b,o) (xde _ (xde _ (zfh hb e)))).1,fun b hb=>?_,w7⟩;obtain⟨o,e,d⟩:=T.obj _ _ st5 b hb;exact(I7.pin (b,o) (xde _ (xde _ (zfh hb e)))).2.1
  cases f with
  | next=>obtain⟨σ7,H7,I7,n7⟩:=q7;exact again I7 n7
  | cont=>obtain⟨σ7,H7,I7,n7⟩:=q7;exact again I7 n7
  | brk=>obtain⟨σ7,H7,I7,q7⟩:=q7;exact⟨σ7,H7,I7.unpinned,q7⟩
  | ret v=>obtain⟨x7,σ7,H7,I7,r7,q7⟩:=q7;exact⟨x7,σ7,H7,I7.unpinned,r7,q7⟩
end
noncomputable abbrev R2:=V->V->Hp->VK->Prop
noncomputable def OpR (X:Cx) (f:Value->Value->Sem Value) (r:R2):Prop :=
 ∀(aA:List (Addr×Obj)) (s:Shared) (σ:St) (H:Hp) (x y:V) (v u:Value) (Q:VK),Inv X aA σ H s->RelV x v->RelV y u->r x y H Q ->
  wpAny (model X.prog X.w) X.A (f v u) (EP X aA σ Q) X.xe s
noncomputable def UnR (X:Cx) (f:Value->Sem Value) (r:V->Hp->VK->Prop):Prop :=
 ∀(aA:List (Addr×Obj)) (s:Shared) (σ:St) (H:Hp) (x:V) (v:Value) (Q:VK),Inv X aA σ H s->RelV x v->r x H Q ->
  wpAny (model X.prog X.w) X.A (f v) (EP X aA σ Q) X.xe s
noncomputable def CallR (X:Cx) (f:Value) (r:List V->Hp->VK->Prop):Prop :=
 ∀(aA:List (Addr×Obj)) (s:Shared) (σ:St) (H:Hp) (xs:List V) (us:List Value) (Q:VK),Inv X aA σ H s->Vals xs us->r xs H Q ->
  wpAny (model X.prog X.w) X.A (call f us) (EP X aA σ Q) X.xe s
noncomputable def TruR (X:Cx) (r:V->Hp->(Bool->Hp->Prop)->Prop):Prop :=
 ∀(aA:List (Addr×Obj)) (s:Shared) (σ:St) (H:Hp) (x:V) (v:Value) (Q:Bool->Hp->Prop),Inv X aA σ H s->RelV x v->r x H Q ->
  wpAny (model X.prog X.w) X.A (truthy v) (TP X aA σ Q) X.xe s
noncomputable def tOp (r:R2) (ta tb:TE):TE:=fun σ H Q=>ta σ H fun x H1=>tb σ H1 fun y H2=>r x y H2 Q
noncomputable def tUn (r:V->Hp->VK->Prop) (ta:TE):TE:=fun σ H Q=>ta σ H fun x H1=>r x H1 Q
noncomputable def rI (C:Int->Int->Prop) (g:Int->Int->V):R2:=fun x y H Q=>∃i j,x=.int i/\y=.int j/\C i j/\Q (g i j) H
noncomputable def rI0 (g:Int->Int->V):R2:=fun x y H Q=>∃i j,x=.int i/\y=.int j/\Q (g i j) H
noncomputable def rU (g:Int->V):V->Hp->VK->Prop:=fun x H Q=>∃i,x=.int i/\Q (g i) H
section
variable {X:Cx}{a b c:Expr}{ta tb tc:TE}{pos:Pos}
theorem binT (ha:PE X a ta)(hb:PE X b tb){aA:List (Addr×Obj)}{s:Shared}{σ:St}{H:Hp}{R:V->V->Hp->Prop}(I:Inv X aA σ H s)
  (h:ta σ H fun x H1=>tb σ H1 fun y H2=>R x y H2){Q:Value->Shared->Prop}{f:Value->Value->Sem Value}
  (hf:∀v u s2 x y H2,Inv X aA σ H2 s2->RelV x v->RelV y u->R x y H2->wpAny (model X.prog X.w) X.A (f v u) Q X.xe s2) :
  wpAny (model X.prog X.w) X.A (eval a X.env) (fun v s₁=>wpAny (model X.prog X.w) X.A (eval b X.env) (fun u s₂=>wpAny (model X.prog X.w) X.A (f v u) Q X.xe s₂) X.xe s₁) X.xe s:=by
 refine thn (ha aA s σ H _ I h) fun v s1 hq0=>?_
 obtain⟨x,H1,I1,r1,q1⟩:=hq0;refine thn (hb aA s1 σ H1 _ I1 q1) fun u s2 hq0=>?_
 obtain⟨y,H2,I2,r2,q2⟩:=hq0;exact hf v u s2 x y H2 I2 r1 r2 q2
theorem zbkp {op:Operator}{r:R2}(ho:OpR X (binaryOp op) r)(ha:PE X a ta)(hb:PE X b tb):PE X (.BinOp a op b pos) (tOp r ta tb):=by
 intro aA s σ H Q I h;exact wpAny_BinOp (binT ha hb I h fun v u s2 x y H2 I2 rx ry q=>ho aA s2 σ H2 x y v u Q I2 rx ry q)
theorem zbkn {op:UnaryOp}{r:V->Hp->VK->Prop}(ho:UnR X (unaryOp op) r)(ha:PE X a ta):PE X (.UnaryOp op a pos) (tUn r ta):=by
 intro aA s σ H Q I h;exact UnaryOp_ (thn (ha aA s σ H _ I h) fun v s1 ⟨x,H1,I1,r1,q1⟩=>ho aA s1 σ H1 x v Q I1 r1 q1)
theorem opI {f:Value->Value->Sem Value}{C:Int->Int->Prop}{g:Int->Int->Int}
  (rule:∀(i j:Int) (t u:Tok) (s:Shared) (Q:Value->Shared->Prop) (E:Value->Shared->Prop),C i j->Q (.int (g i j) s.toks) {s with toks:=s.toks+1}->wpAny (model X.prog X.w) X.A (f (.int i t) (.int j u)) Q E s) :
  OpR X f (rI C fun i j=>.int (g i j)):=by
 intro aA s σ H x y v u Q I rx ry h;obtain⟨i,j,rfl,rfl,hc,q⟩:=h;obtain⟨t,rfl⟩:=rx;obtain⟨t',rfl⟩:=ry;exact rule i j t t' s _ _ hc ⟨.int (g i j),H,I.tok _,⟨_,rfl⟩,q⟩
theorem opI0 {f:Value->Value->Sem Value}{g:Int->Int->Int}
  (rule:∀(i j:Int) (t u:Tok) (s:Shared) (Q:Value->Shared->Prop) (E:Value->Shared->Prop),Q (.int (g i j) s.toks) {s with toks:=s.toks+1}->wpAny (model X.prog X.w) X.A (f (.int i t) (.int j u)) Q E s) :
  OpR X f (rI0 fun i j=>.int (g i j)):=by
 intro aA s σ H x y v u Q I rx ry h;obtain⟨i,j,rfl,rfl,q⟩:=h;obtain⟨t,rfl⟩:=rx;obtain⟨t',rfl⟩:=ry;exact rule i j t t' s _ _ ⟨.int (g i j),H,I.tok _,⟨_,rfl⟩,q⟩
theorem opB0 {f:Value->Value->Sem Value}{g:Int->Int->Bool}
  (rule:∀(i j:Int) (t u:Tok) (s:Shared) (Q:Value->Shared->Prop) (E:Value->Shared->Prop),Q (.bool (g i j)) s->wpAny (model X.prog X.w) X.A (f (.int i t) (.int j u)) Q E s) :
  OpR X f (rI0 fun i j=>.bl (g i j)):=by
 intro aA s σ H x y v u Q I rx ry h;obtain⟨i,j,rfl,rfl,q⟩:=h;obtain⟨t,rfl⟩:=rx;obtain⟨t',rfl⟩:=ry;exact rule i j t t' s _ _ ⟨.bl (g i j),H,I,rfl,q⟩
noncomputable def CPow (i j:Int):Prop:=0<=j/\j<=1000000/\i.natAbs < 2 ^ 64
noncomputable def CMul (i j:Int):Prop:=(-(2 ^ 64) < i/\i < 2 ^ 64)\/(-(2 ^ 64) < j/\j < 2 ^ 64)
theorem CMul.ok {i j:Int}(h:CMul i j):IntMulOk i j:=by
 rcases h with⟨h1,h2⟩ | ⟨h1,h2⟩
 ·exact .of_left (intBits_le_64 h1 h2)
 ·exact .of_right (intBits_le_64 h1 h2)
theorem zbgw:OpR X (binaryOp .Add) (rI0 fun i j=>.int (i+j)):=opI0 fun _ _ _ _ _ _ _ q=>add_int q
theorem zfd:OpR X (binaryOp .Sub) (rI0 fun i j=>.int (i - j)):=opI0 fun _ _ _ _ _ _ _ q=>sub_int q
theorem zgj:OpR X (binaryOp .Mult) (rI CMul fun i j=>.int (i * j)):=opI fun _ _ _ _ _ _ _ hc q=>mul_int q hc.ok
theorem zot:OpR X (binaryOp .Mod) (rI (fun _ j=>0 < j) fun i j=>.int (i % j)):=opI fun i j _ _ _ _ _ hc q=>by
 have h1:(0:Int) < j:=hc;exact mod_int' (by lia) (by rw[Int.fmod_eq_emod_of_nonneg i (by lia)];exact q)
theorem zbgq:OpR X (binaryOp .Pow) (rI CPow fun i j=>.int (i ^ j.toNat)):=opI fun _ _ _ _ _ _ _ hc q=>pow_int_small hc.1 hc.2.1 hc.2.2 q
theorem zbby:OpR X (binaryOp .BitAnd) (rI0 fun i j=>.int (Builtin.bitAnd i j)):=opI0 fun _ _ _ _ _ _ _ q=>and_int q
theorem unI {f:Value->Sem Value}{g:Int->Int}
  (rule:∀(i:Int) (t:Tok) (s:Shared) (Q:Value->Shared->Prop) (E:Value->Shared->Prop),Q (.int (g i) s.toks) {s with toks:=s.toks+1}->wpAny (model X.prog X.w) X.A (f (.int i t)) Q E s) :
  UnR X f (rU fun i=>.int (g i)):=by
 intro aA s σ H x v Q I rx h;obtain⟨i,rfl,q⟩:=h;obtain⟨t,rfl⟩:=rx;exact rule i t s _ _ ⟨.int (g i),H,I.tok _,⟨_,rfl⟩,q⟩
theorem zbfh:UnR X (unaryOp .USub) (rU fun i=>.int (-i)):=unI fun _ _ _ _ _ q=>neg_int q
theorem zbkt:OpR X (compareOp .Lt) (rI0 fun i j=>.bl (decide (i < j))):=opB0 fun _ _ _ _ _ _ _ q=>lt_int q
theorem zbgt:OpR X (compareOp .LtE) (rI0 fun i j=>.bl (decide (i<=j))):=opB0 fun _ _ _ _ _ _ _ q=>le_int q
theorem zbgu:OpR X (compareOp .Gt) (rI0 fun i j=>.bl (decide (j < i))):=opB0 fun _ _ _ _ _ _ _ q=>gt_int q
theorem OpR.or {f:Value->Value->Sem Value}{r r':R2}(h:OpR X f r)(h':OpR X f r'):OpR X f (fun x y H Q=>r x y H Q\/r' x y H Q):=by
 intro aA s σ H x y v u Q I rx ry q;rcases q with q | q
 ·exact h aA s σ H x y v u Q I rx ry q
 ·exact h' aA s σ H x y v u Q I rx ry q
theorem nomark (b:Expr){op:CmpOp}(h:op≠.In:=by decide)(h2:op≠.NotIn:=by decide):behindInMarks op b=false:=by
 have e1:(op==CmpOp.In)=false:=by cases op<;>first | rfl | exact absurd rfl h
 have e2:(op==CmpOp.NotIn)=false:=by cases op<;>first | rfl | exact absurd rfl h2
 cases b<;>simp[behindInMarks,e1,e2]
theorem zbbr {op:CmpOp}{r:R2}(ho:OpR X (compareOp op) r)(ha:PE X a ta)(hb:PE X b tb)(hm:behindInMarks op b=false):PE X (.Compare a [op] [b] pos) (tOp r ta tb):=by
 intro aA s σ H Q I h;exact wpAny_Compare1 (binT ha hb I h fun v u s2 x y H2 I2 rx ry q=>ho aA s2 σ H2 x y v u Q I2 rx ry q) hm
noncomputable def tTest (t:TE):TT:=fun σ H Q=>t σ H fun x H'=>∃k,x=.bl k/\Q k H'
theorem zbav {op:CmpOp}{r:R2}(ho:OpR X (compareOp op) r)(ha:PE X a ta)(hb:PE X b tb)(hm:behindInMarks op b=false):PT X (.Compare a [op] [b] pos) (tTest (tOp r ta tb)):=by
 intro aA s σ H Q I h
 refine wpAny_isTrue_Compare1 (thn (ha aA s σ H _ I h) fun v s1 ⟨x,H1,I1,r1,q1⟩=>thn (hb aA s1 σ H1 _ I1 q1) fun u s2 ⟨y,H2,I2,r2,q2⟩ =>
  thn (ho aA s2 σ H2 x y v u _ I2 r1 r2 q2) fun c s3 ⟨z,H3,I3,r3,k,e,q3⟩=>?_) hm
 subst e;cases r3;exact xeh ⟨H3,I3,q3⟩
noncomputable def tChain (r r':R2) (ta tb tc:TE):TE:=fun σ H Q=>ta σ H fun x H1=>tb σ H1 fun y H2=>r x y H2 fun z H3=>∃k,z=.bl k /\
 (if k=true then tc σ H3 fun w' H4=>r' y w' H4 Q else Q (.bl false) H3)
theorem zwl {op op':CmpOp}{r r':R2}(ho:OpR X (compareOp op) r)(ho':OpR X (compareOp op') r')(ha:PE X a ta)(hb:PE X b tb)(hc:PE X c tc)
  (hm:lastMarks [op,op'] [b,c]=false:=by with_unfolding_all rfl):PT X (.Compare a [op,op'] [b,c] pos) (tTest (tChain r r' ta tb tc)):=by
 intro aA s σ H Q I h
 refine isTrue_chain (thn (ha aA s σ H _ I h) fun v s1 ⟨x,H1,I1,r1,q1⟩=>test_link (thn (hb aA s1 σ H1 _ I1 q1) fun u s2 ⟨y,H2,I2,r2,q2⟩ =>
  thn (ho aA s2 σ H2 x y v u _ I2 r1 r2 q2) fun d s3 ⟨z,H3,I3,r3,k,e,q3⟩=>?_)) hm
 subst e;cases r3;refine xeh ?_;cases k with
 | false =>
  obtain⟨k',e',q'⟩:=q3;cases e';exact ite_ff ⟨H3,I3,q'⟩
 | true =>
  refine ite_tt (test_last (thn (hc aA s3 σ H3 _ I3 q3) fun w' s4 ⟨z',H4,I4,r4,q4⟩=>thn (ho' aA s4 σ H4 y z' u w' _ I4 r2 r4 q4) fun d' s5 hq0=>?_));obtain⟨z2,H5,I5,r5,k2,e2,q5⟩:=hq0;subst e2;cases r5;exact xeh ⟨H5,I5,q5⟩
noncomputable def TruV (K:Fg) (x:V) (H:Hp) (k:Bool):Prop :=
 match x with
 | .non=>k=false
 | .bl b=>k=b
 | .int i=>k=(i != 0)
 | .str y=>y.length<=sizeLine/\k=((y.length:Int) != 0)
 | .byt y=>y.size<=sizeLine/\k=((y.size:Int) != 0)
 | .ref p=>(∃xs,SqL K H p xs/\k=!xs.isEmpty)\/(∃xs,SqT K H p xs/\k=!xs.isEmpty)\/∃kvs,H p=some (.dK kvs)/\k=!kvs.isEmpty
 | _=>False
theorem zqx {κ:Type}{kvs:List (κ×V)}{vs:List (κ×Value)}(r:KV kvs vs):(!vs.isEmpty)=!kvs.isEmpty:=by
 cases r<;>rfl
theorem zla {xs:List V}{its:List Value}(r:Vals xs its):(!its.toArray.isEmpty)=!xs.isEmpty:=by
 cases r<;>simp
theorem line63:(sizeLine:Nat) < 2 ^ 63:=by rw[xja];decide
theorem zbfj:TruR X (fun x H Q=>∃k,TruV X.K x H k/\Q k H):=by
 intro aA s σ H x v Q I rx h;obtain⟨k,e,q⟩:=h;have hl:=line63;have hs:sizeLine=16777216:=xja;cases x with
 | non =>
  cases rx;have e':k=false:=e;subst e';exact truthy_none ⟨H,I,q⟩
 | bl b =>
  cases rx;have e':k=b:=e;subst e';exact xeh ⟨H,I,q⟩
 | int i =>
  obtain⟨t,rfl⟩:=rx;have e':k=(i != 0):=e;subst e';exact PySem.P.truthy_int ⟨H,I,q⟩
 | str y =>
  obtain⟨t,rfl⟩:=rx;obtain⟨hy,e'⟩:y.length<=sizeLine/\k=((y.length:Int) != 0):=e;subst e';exact PySem.P.truthy_str (by lia) ⟨H,I.tok _,q⟩
 | byt y =>
  obtain⟨t,rfl⟩:=rx;obtain⟨hy,e'⟩:y.size<=sizeLine/\k=((y.size:Int) != 0):=e;subst e';exact W.truthy_bytes (by lia) ⟨H,I.tok _,q⟩
 | ref p =>
  cases rx;have e':(∃xs,SqL X.K H p xs/\k=!xs.isEmpty)\/(∃xs,SqT X.K H p xs/\k=!xs.isEmpty)\/∃kvs,H p=some (.dK kvs)/\k=!kvs.isEmpty:=e
  rcases e' with⟨xs,hx,e'⟩ | ⟨xs,hx,e'⟩ | ⟨kvs,hx,e'⟩
  ·subst e';obtain⟨its,r,pl,hz⟩:=I.list hx;have hlen:=r.length;exact wpAny_truthy_list pl.isList (by simp only[xbw];lia) ⟨H,I.tok _,by rw[zla r];exact q⟩
  ·subst e';obtain⟨its,r,pl,hz⟩:=I.tuple hx;have hlen:=r.length;exact truthy_tuple pl (by simp only[xbw];lia) ⟨H,I.tok _,by rw[zla r];exact q⟩
  ·subst e';obtain⟨hz,hS,vs,r,m⟩:kvs.length<=sizeLine/\(p==sysModules)=false/\∃vs,KV kvs vs/\s.heap.DictOf (mixKind X.prog X.w) p vs:=I.hok p _ hx
   have hlen:kvs.length=vs.length:=xgq r;exact wpAny_truthy_dict hS m (by lia) ⟨H,I.tok _,by rw[zqx r];exact q⟩
 | _=>exact(show False from e).elim
theorem zqf (ha:PE X a ta)(he:∀whole,isTrue a X.env whole=(do let v ← whole;standAt a.pos;holding [v] (truthy v))) :
  PT X a (fun σ H Q=>ta σ H fun x H'=>∃k,TruV X.K x H' k/\Q k H'):=by
 intro aA s σ H Q I h;exact isTrue_plain (thn (ha aA s σ H _ I h) fun v s1 ⟨x,H1,I1,r1,q1⟩=>zbfj aA s1 σ H1 x v Q I1 r1 q1) (he _)
theorem zqi:OpR X (binaryOp .Add) (fun x y H Q=>∃i j,x=.str i/\y=.str j/\i.length+j.length<=sizeLine/\Q (.str (i++j)) H):=by
 intro aA s σ H x y v u Q I rx ry h;obtain⟨i,j,rfl,rfl,hz,q⟩:=h;obtain⟨t,rfl⟩:=rx;obtain⟨t',rfl⟩:=ry;exact add_str (fun t' tk=>⟨.str (i++j),H,I.tok _,⟨_,rfl⟩,q⟩) hz
theorem vals1 {x:V}{us:List Value}(r:Vals [x] us):∃u,us=[u]/\RelV x u:=by
 cases r with
 | cons r1 r2=>cases r2;exact⟨_,rfl,r1⟩
theorem vals2 {x y:V}{us:List Value}(r:Vals [x,y] us):∃u w',us=[u,w']/\RelV x u/\RelV y w':=by
 cases r with
 | cons r1 r2 =>
  cases r2 with
  | cons r3 r4=>cases r4;exact⟨_,_,rfl,r1,r3⟩
theorem zzi:CallR X (.builtin "abs") (fun xs H Q=>∃ i, xs=[.int i]/\Q (.int (if i < 0 then -i else i)) H):=by
 intro aA s σ H xs us Q I r h;obtain⟨i,rfl,q⟩:=h;obtain⟨u,rfl,t,rfl⟩:=vals1 r;exact call_abs_int fun u tk=>⟨.int (if i < 0 then -i else i),H,I.tok _,⟨_,rfl⟩,q⟩
theorem zkn (hc:X.calm=true):CallR X (.builtin "min") (fun xs H Q=>∃ i j, xs=[.int i, .int j]/\Q (.int (if j < i then j else i)) H):=by
 intro aA s σ H xs us Q I r h;obtain⟨i,j,rfl,q⟩:=h;obtain⟨u,w',rfl,⟨t,rfl⟩,⟨t',rfl⟩⟩:=vals2 r;refine min_two_ints (I.ok.hd hc) fun h' tk k=>⟨_,H,I.kept k,?_,q⟩
 by_cases hj:j < i
 ·rw[if_pos hj,if_pos hj];exact⟨_,rfl⟩
 ·rw[if_neg hj,if_neg hj];exact⟨_,rfl⟩
end
structure ObjM (h:Heap) (x dx C:Addr) (mA:Str->Option Value):Prop where
 obj:h.get? x=some (W.instObj C dx)
 ns:h.Ns1 dx mA
 ne:dx≠x
theorem ztm {h:Heap}{dx:Addr}{mA:Str->Option Value}(n:h.Ns1 dx mA):∃od,h.get? dx=some od/\∀name,W.lookIn name od=some (mA name):=by
 obtain⟨o,es,ep,ho,hd,hk,_,hm⟩:=n;refine⟨o,ho,fun name=>?_⟩;have e:=hm name;unfold nsFind findBy at e;rw[← Array.find?_toList] at e;unfold W.lookIn;rw[hd];dsimp only;split
 ·rename_i y q;rw[q] at e;exact congrArg some e
 ·rename_i q;rw[q] at e;have a:es.toList.any (·.refKey)=false:=by
   rw[List.any_eq_false];intro y hy;obtain⟨z,t,hkey⟩:=hk y (Array.mem_toList_iff.mp hy);simp[DictEntry.refKey,hkey]
  have a':¬ es.toList.any (·.refKey)=true:=by rw[a];exact xeq
  rw[if_neg a'];exact congrArg some e
theorem ObjM.look {h:Heap}{x dx C:Addr}{mA:Str->Option Value}(I:ObjM h x dx C mA):∃od,W.InstAt h x (W.instObj C dx) C (some od)/\∀name,W.lookIn name od=some (mA name) :=
 let ⟨od,ho,hl⟩:=ztm I.ns
 ⟨od,⟨I.obj,rfl,rfl,ho⟩,hl⟩
section
variable {prog:Program}{w:World}{A:Around}{E:Value->Shared->Prop}{s:Shared}{K:Fg}{x dx C f:Addr}{mA:Str->Option Value}{name:Str}{v:Value}
end
theorem RelO.some_of {v:V}{o:Option Value}(r:RelO (some v) o):∃u,o=some u/\RelV v u:=by
 cases o with
 | none=>exact(show False from r).elim
 | some u=>exact⟨u,rfl,r⟩
section
variable {P:Program}{w:World}{H H':Hp}{h h':Heap}{a C dx:Addr}{fs fs':List (Str×V)}
theorem zbdc (hok:HOk P w H h)(e:H a=some (.ins C dx fs)):∃mA,ObjM h a dx C mA/\(∀f,RelO (fs.lookup f) (mA f))/\PySem.Within mA (fs.map (·.1))/\fs.length<=1000/\H dx=some (.own a):=by
 obtain⟨d,z,ne,ob,mA,n,r,q⟩:=(show ObjOk P w H h a (.ins C dx fs) from hok a _ e)
 exact⟨mA,⟨ob,n,ne⟩,r,q,z,d⟩
end
structure Cls (K:Fg) (C:Addr):Prop where
 pg:W.plainGet K C Str.empty=true
 hd:W.hasDictIn K C=true
 po:W.plainOver K C=true
 sa:W.findIn K (.ref C) "__setattr__"=some (some (.builtin "object.__setattr__"))
theorem Cls.get {K:Fg}{C:Addr}(c:Cls K C)(f:Str):W.plainGet K C f=true:=c.pg
section
variable {X:Cx}{aA:List (Addr×Obj)}{σ:St}{H:Hp}{s:Shared}{a C dx:Addr}{fs:List (Str×V)}{f:Str}{v:V}{A:Around}{E:Value->Shared->Prop}
end
section
variable {X:Cx}{o e value:Expr}{f:Str}{pos pos' tpos:Pos}{ta tv:TE}
end
section
variable {X:Cx}{aA:List (Addr×Obj)}{σ:St}{H:Hp}{s:Shared}{A:Around}{E:Value->Shared->Prop}{Q:Value->Shared->Prop}{c:Value}{b:Bool}
inductive TyOf (K:Fg) (H:Hp):V->Value->Prop where
 | non:TyOf K H .non (.type "NoneType")
 | bl (x:Bool):TyOf K H (.bl x) (.type "bool")
 | int (i:Int):TyOf K H (.int i) (.type "int")
 | str (x:Str):TyOf K H (.str x) (.type "str")
 | flt (x:UInt64):TyOf K H (.flt x) (.type "float")
 | lst {a:Addr} {xs:List V} (e:H a=some (.lst xs)):TyOf K H (.ref a) (.type "list")
 | frz {a:Addr} {o:Obj} {xs:List V} (e:H a=some (.frz o (.lst xs))):TyOf K H (.ref a) (.type "list")
 | tup {a:Addr} {xs:List V} (e:H a=some (.tup xs)):TyOf K H (.ref a) (.type "tuple")
 | dK {a:Addr} {kvs:List (Key×V)} (e:H a=some (.dK kvs)):TyOf K H (.ref a) (.type "dict")
 | dT {a:Addr} {kvs:List (List Key×V)} (e:H a=some (.dT kvs)):TyOf K H (.ref a) (.type "dict")
 | ins {a C dx:Addr} {fs:List (Str×V)} (e:H a=some (.ins C dx fs)) (cl:Cls K C) (ha:W.findIn K (.ref C) "__class__"=some (some (.builtin "object.__class__")))
  (hn:W.specialIn K (.builtin "object.__class__") "__get__"=some (some (.builtin "getset_descriptor.__get__")))(htk:W.takesIn K (.builtin "object.__class__")=some true)
  (hm:W.mroIn K C (.type "object")=some true):TyOf K H (.ref a) (.ref C)
theorem zts {x:V}{u t:Value}(I:Inv X aA σ H s)(rx:RelV x u)(ty:TyOf X.K H x t)(e:W.kitOne X.K t c=some b)(h:∀tk,Q (.bool b) {s with toks:=tk}) :
  wpAny (model X.prog X.w) A (call (.builtin "isinstance") [u, c]) Q E s:=by
 cases ty with
 | non=>cases(show u=Value.none from rx);exact xek W.kitx_none I.kIn True.intro e (fun z=>nomatch z) h
 | bl y=>cases(show u=Value.bool y from rx);exact xek W.kitx_bool I.kIn True.intro e (fun z=>nomatch z) h
 | int i=>obtain⟨t,q⟩:=(show ∃t,u=Value.int i t from rx);cases q;exact xek W.kitx_int I.kIn True.intro e (fun z=>nomatch z) h
 | str y=>obtain⟨t,q⟩:=(show ∃t,u=Value.str y t from rx);cases q;exact xek W.kitx_str I.kIn True.intro e (fun z=>nomatch z) h
 | flt y=>obtain⟨t,q⟩:=(show ∃t,u=Value.float y t from rx);cases q;exact xek W.kitx_float I.kIn True.intro e (fun z=>nomatch z) h
 | @lst a xs ea =>
  cases(show u=Value.ref a from rx);obtain⟨_,_,n,_,h1⟩:=(show ObjOk X.prog X.w H s.heap a (.lst xs) from I.hok a _ ea)
  exact xek W.kitx_list I.kIn ⟨_,h1,rfl⟩ e (fun z=>nomatch z) h
 | @frz a ob xs ea =>
  cases(show u=Value.ref a from rx);obtain⟨_,_,_,n,_,h1⟩:=(show ObjOk X.prog X.w H s.heap a (.frz ob (.lst xs)) from I.hok a _ ea)
  exact xek W.kitx_list I.kIn ⟨_,h1,rfl⟩ e (fun z=>nomatch z) h
 | @tup a xs ea =>
  cases(show u=Value.ref a from rx);obtain⟨_,_,_,p⟩:=(show ObjOk X.prog X.w H s.heap a (.tup xs) from I.hok a _ ea)
  obtain⟨o,h1,h2,_⟩:=p;exact xek W.kitx_tuple I.kIn ⟨o,h1,h2⟩ e (fun z=>nomatch z) h
 | @dK a kvs ea =>
  cases(show u=Value.ref a from rx);obtain⟨_,_,vs,_,p⟩:=(show ObjOk X.prog X.w H s.heap a (.dK kvs) from I.hok a _ ea)
  obtain⟨o,es,ep,h1,h2,_⟩:=p;exact xek W.kitx_dict I.kIn ⟨o,h1,h2.1⟩ e (fun z=>nomatch z) h
 | @dT a kvs ea =>
  cases(show u=Value.ref a from rx);obtain⟨_,_,xs,_,o,es,ep,h1,h2,_⟩:=(show ObjOk X.prog X.w H s.heap a (.dT kvs) from I.hok a _ ea)
  exact xek W.kitx_dict I.kIn ⟨o,h1,h2.1⟩ e (fun z=>nomatch z) h
 | @ins a C dx fs ea cl ha hn htk hm =>
  cases(show u=Value.ref a from rx);obtain⟨mA,O,_⟩:=zbdc I.hok ea;obtain⟨od,J,_⟩:=O.look;exact xek (W.kitx_own (cl.get _) cl.hd ha hn htk hm) I.kIn J e (fun z=>nomatch z) h
end
structure Room (k:Nat) (A:Around):Prop where
 hd:A.handled=none
 dp:A.depth+3 * k+5 < recursionLimit
 un:A.units+16 * k+200 < cLine
theorem Room.mono {j k:Nat}{A:Around}(r:Room k A)(h:j<=k):Room j A:=⟨r.hd,by have:=r.dp;lia,by have:=r.un;lia⟩
theorem Room.deeper {k:Nat}{A:Around}(r:Room (k+1) A)(env:Env):Room k (A.deeper env) :=
 ⟨r.hd,by have:=r.dp;show A.depth+1+3 * k+5 < _;lia,by have:=r.un;show A.units+3+16 * k+200 < _;lia⟩
theorem Room.depth {k:Nat}{A:Around}(r:Room k A):A.depth < recursionLimit:=by have:=r.dp;lia
theorem Room.units {k:Nat}{A:Around}(r:Room k A):A.units+64 < cLine:=by have:=r.un;lia
theorem Room.units0 {k:Nat}{A:Around}(r:Room k A):A.units < cLine:=by have:=r.un;lia
noncomputable def tNil:TA:=fun _ H Q=>Q [] H
noncomputable def tCons (ta:TE) (tr:TA):TA:=fun σ H Q=>ta σ H fun x H1=>tr σ H1 fun xs H2=>Q (x::xs) H2
section
variable {X:Cx}{e:Expr}{es:List Expr}{te:TE}{t:TA}{pos:Pos}
theorem zbgp:PA X [] tNil:=fun _ _ _ _ H Q I h=>xir ⟨[],H,I,.nil,h⟩
theorem zbbu (ha:PE X e te)(hr:PA X es t)(hs:starEach (e::es) X.env=(false,eval e X.env)::starEach es X.env:=by rfl):PA X (e::es) (tCons te t):=by
 intro pos aA s σ H Q I h;rw[hs];show wpAny _ _ (spliced ((false,eval e X.env)::backTo pos (starEach es X.env))) _ _ s;refine xgu (thn (ha aA s σ H _ I h) fun u s1 hq0=>?_);obtain⟨x,H1,I1,r1,q1⟩:=hq0;exact thn (hr pos aA s1 σ H1 _ I1 q1) fun us s2 ⟨xs,H2,I2,r2,q2⟩=>⟨x::xs,H2,I2,.cons r1 r2,q2⟩
noncomputable def tTup (t:TA):TE:=fun σ H Q=>t σ H fun xs H1=>xs.length<=sizeLine/\∀p,H1 p=none->Q (.ref p) (upd H1 p (.tup xs))
noncomputable def tLst (t:TA):TE:=fun σ H Q=>t σ H fun xs H1=>xs.length<=sizeLine/\∀p,H1 p=none->Q (.ref p) (upd H1 p (.lst xs))
theorem zbgi {x1}(h:PA X es t):PE X (.Tuple es x1 pos) (tTup t):=by
 intro aA s σ H Q I hq;refine wpAny_Tuple_spliced (thn (h pos aA s σ H _ I hq) fun us s1 ⟨xs,H1,I1,r,z,q⟩=>⟨by rw[← r.length];exact z,?_⟩);have hf:H1 s1.heap.objs.size=none:=I1.hok.fresh (xbg _);refine⟨.ref s1.heap.objs.size,upd H1 s1.heap.objs.size (.tup xs),I1.laid (t':=s1.toks) (fun b u e=>xbo _ e) (xbg _) ?_,rfl,q _ hf⟩;exact⟨z,us,r,⟨_,xce _ rfl,rfl,_,rfl⟩⟩
theorem zbbn (h:PA X es t):PE X (.List es pos) (tLst t):=by
 intro aA s σ H Q I hq;refine wpAny_List_spliced (thn (h pos aA s σ H _ I hq) fun us s1 ⟨xs,H1,I1,r,z,q⟩=>⟨by rw[← r.length];exact z,?_⟩);have hf:H1 s1.heap.objs.size=none:=I1.hok.fresh (xbg _);refine⟨.ref s1.heap.objs.size,upd H1 s1.heap.objs.size (.lst xs),I1.laid (t':=s1.toks) (fun b u e=>xbo _ e) (xbg _) ?_,rfl,q _ hf⟩;exact⟨z,us,0,r,xce _ rfl⟩
end
noncomputable abbrev Sp:=List V->Hp->VK->XK->Prop
noncomputable abbrev CXT:=List Env->Hp->Shared->XK->Value->Shared->Prop
structure Env0 (P:Program) (w:World) (K:Fg) (mg:Str->Option Value) (base:Heap) (A:Around) (outer:List Env) (s:Shared) (H:Hp):Prop where
 frames:A.frames=some outer
 mod:Mod K mg base
 bs:∀b o,base.get? b=some o->s.heap.get? b=some o/\H b=none
 bsz:base.objs.size<=s.heap.objs.size
 funs:s.heap.FunFrames base outer
 frf:∀b∈frs outer,H b=none
 hok:HOk P w H s.heap
 bare:AllBare s.gens
noncomputable def CE (outer:List Env) (P:Program) (w:World) (H:Hp) (s:Shared) (Q:VK) (u:Value) (s':Shared):Prop :=
 ∃v H',s'.os=s.os/\AllBare s'.gens/\Un (frs outer) [] H H' s.heap s'.heap/\HOk P w H' s'.heap/\RelV v u/\Q v H'
noncomputable def CR (CX:CXT) (outer:List Env) (P:Program) (w:World) (H:Hp) (s:Shared) (Q:VK) (E:XK) (r:Result) (s':Shared):Prop :=
 match r with
 | .ok (.ret u)=>CE outer P w H s Q u s'
 | .ok _=>False
 | .error e=>CX outer H s E e s'
structure FnOk (P:Program) (w:World) (K:Fg) (mg:Str->Option Value) (base:Heap) (CX:CXT) (k:Nat) (f:Addr) (fd:FuncData) (ps:List Str) (sp:Sp):Prop where
 len:∀vs H Q E,sp vs H Q E->vs.length=ps.length
 run:∀(A:Around) (outer:List Env) (s:Shared) (H:Hp) (args:Args) (us:List Value) (vs:List V) (Q:VK) (E:XK),Room k A->Env0 P w K mg base A outer s H->BindsTo s fd args (ps.zip us)->Vals vs us->sp vs H Q E ->
  codeAny (model P w) A (.call (.ref f) args) (CR CX outer P w H s Q E) s
section
variable {X:Cx}{aA:List (Addr×Obj)}{σ:St}{H:Hp}{s s':Shared}
theorem Inv.env0 (I:Inv X aA σ H s):Env0 X.prog X.w X.K X.mg X.base X.A X.stack s H :=
 ⟨I.ok.frames,I.ok.mod,I.bs,xbb I.ok.bsz I.sz,I.stack,I.stkFree,I.hok,I.bare⟩
theorem Inv.after {Q:VK}{u:Value}(I:Inv X aA σ H s)(h:CE X.stack X.prog X.w H s Q u s'):EP X aA σ Q u s':=by
 obtain⟨v,H',os,bare,un,hok,r,q⟩:=h;obtain⟨hh,g,d,t,os'⟩:=s';obtain rfl:os'=s.os:=os;exact⟨v,H',I.call (h':=hh) (g':=g) (d':=d) (t':=t) (ch:=[]) un hok bare (fun b z=>absurd z (by simp)),r,q⟩
end
noncomputable def tCall (sp:Sp) (dvs:List V) (E:XK) (t:TA):TE:=fun σ H Q=>t σ H fun vs H1=>sp (vs++dvs) H1 Q E
noncomputable def Binds (K:Fg) (fd:FuncData) (ps:List Str) (ds:List Value):Prop :=
 ∀(s:Shared) (us:List Value),K.In s.heap->(us++ds).length=ps.length->BindsTo s fd ⟨us,[]⟩ (ps.zip (us++ds))
theorem Binds.all {K:Fg}{fd:FuncData}{ps:List Str}(h:∀us:List Value,us.length=ps.length->bindArgs fd ⟨us,[]⟩=pure (ps.zip us)):Binds K fd ps []:=fun s us _ hl=>by
 rw[xep] at hl ⊢;exact .of_eq (h us hl)
noncomputable def Passes (CX:CXT) (X:Cx) (E:XK):Prop:=∀(aA:List (Addr×Obj)) (σ:St) (H:Hp) (s:Shared) (e:Value) (s':Shared),Inv X aA σ H s->CX X.stack H s E e s'->X.xe e s'
section
variable {X:Cx}{CX:CXT}{k:Nat}{f C:Addr}{fd:FuncData}{ps:List Str}{sp:Sp}{dvs:List V}{ds:List Value}{E:XK}{x m:Str}{p pos apos:Pos}{e o:Expr}{es:List Expr}{ta:TE}{t:TA}
theorem zbfv {aA:List (Addr×Obj)}{σ:St}{H:Hp}{s:Shared}{Q:VK}{us:List Value}{vs:List V}(F:FnOk X.prog X.w X.K X.mg X.base CX k f fd ps sp)(hr:Room k X.A)(hb:Binds X.K fd ps ds)(hd:Vals dvs ds)(hx:Passes CX X E)
  (I:Inv X aA σ H s)(r:Vals vs us)(h:sp (vs++dvs) H Q E):wpAny (model X.prog X.w) X.A (call (.ref f) us) (EP X aA σ Q) X.xe s:=by
 have r2:Vals (vs++dvs) (us++ds):=r.append hd;have hl:(us++ds).length=ps.length:=by rw[← r2.length];exact F.len _ _ _ _ h
 refine wpAny_call (xjp (F.run X.A X.stack s H ⟨us,[]⟩ (us++ds) (vs++dvs) Q E hr I.env0 (hb s us I.kIn hl) r2 h) fun r s' hq=>?_);cases r with
 | error e=>exact hx aA σ H s e s' I hq
 | ok fl =>
  cases fl with
  | ret u=>exact I.after hq
  | next=>exact False.elim hq
  | brk=>exact False.elim hq
  | cont=>exact False.elim hq
theorem zbbs (F:FnOk X.prog X.w X.K X.mg X.base CX k f fd ps sp)(hr:Room k X.A)(hg:Gl X x)(hm:X.mg x=some (.ref f))(hk:W.keepIn X.K (.ref f)=true)(hb:Binds X.K fd ps ds)(hd:Vals dvs ds)(hx:Passes CX X E)
  (ha:PA X (e::es) t)(hdb:(x==("__debug__" : Str))=false:=by decide)(he:starEach (e::es) X.env=(false, eval e X.env)::starEach es X.env:=by rfl)(hpl:(backTo pos (starEach es X.env)).any (·.1)=false:=by rfl) :
  PE X (.Call (.Name x p) (e::es) [] pos) (tCall sp dvs E t):=by
 intro aA s σ H Q I h;refine xik (zvh I hg hm ?_ hdb);refine W.callWith_K (h₀:=X.base) I.ok.mod.kin hk (thn (ha pos aA s σ H _ I h) fun us s1 ⟨vs,H1,I1,r,q⟩=>⟨I1.kIn,?_⟩) he hpl;exact zbfv F hr hb hd hx I1 r q
end
section
variable {X:Cx}{CX:CXT}{k:Nat}{f C:Addr}{fd:FuncData}{ps ks:List Str}{sp:Sp}{E:XK}{x m:Str}{p pos apos kpos:Pos}{e o:Expr}{es:List Expr}{kws:List Keyword}{te ta:TE}{t tk:TA}{nm:Option Str}
variable {g:List Value->List Value->List Value}{gV:List V->List V->List V}
end
structure FnScope (N P:List Str) (sc:Scope):Prop where
 kind:sc.kind=.function
 co:sc.isCoroutine=false
 gen:sc.isGenerator=false
 nd:N.Nodup
 pre:N.take P.length=P
 par:∀x∈P,sc.names.lookup x=some .local\/sc.names.lookup x=some .cell
 nofree:∀y∈sc.names,y.2≠.free
theorem zol {kindOf:Str->Option NameKind}{x:Str}:∀{binds:List (Str×Value)} {m:Str->Option Value},(∀v,(x,v)∉binds)->bindL kindOf binds m x=m x
 | [],_,_=>rfl
 | (n,v)::r,m,h=>by
  unfold bindL;rw[zol fun w hw=>h w (xbm _ hw)];split
  ·have:x≠n:=by rintro rfl;exact h v xcn
   simp[this]
  ·rfl
theorem zon {kindOf:Str->Option NameKind}{x:Str}:∀{binds:List (Str×Value)} {m:Str->Option Value},(∀v,(x,v)∉binds)->bindC kindOf binds m x=m x
 | [],_,_=>rfl
 | (n,v)::r,m,h=>by
  unfold bindC;rw[zon fun w hw=>h w (xbm _ hw)];split
  ·rfl
  ·have:x≠n:=by rintro rfl;exact h v xcn
   simp[this]
theorem zom {kindOf:Str->Option NameKind}{x:Str}{v:Value}:∀{P:List Str} {vs:List Value} {i:Nat} {m:Str->Option Value},P.Nodup->P[i]?=some x->vs[i]?=some v->kindOf x=some .local ->
  bindL kindOf (P.zip vs) m x=some v
 | [],_,_,_,_,h,_,_=>by simp at h
 | _::_,[],_,_,_,_,h,_=>by simp at h
 | p::P,w::vs,0,m,nd,h1,h2,hk=>by
  simp at h1 h2;subst h1;subst h2
  show bindL kindOf ((p,w)::P.zip vs) m p=_;unfold bindL;rw[zol fun v hv=>(xdn.mp nd).1 (xks hv).1,if_pos hk];simp
 | p::P,w::vs,i+1,m,nd,h1,h2,hk=>by
  show bindL kindOf ((p,w)::P.zip vs) m x=_;unfold bindL;exact zom (i:=i) (xdn.mp nd).2 (by simpa using h1) (by simpa using h2) hk
theorem zoo {kindOf:Str->Option NameKind}{x:Str}{v:Value}:∀{P:List Str} {vs:List Value} {i:Nat} {m:Str->Option Value},P.Nodup->P[i]?=some x->vs[i]?=some v->kindOf x≠some .local ->
  bindC kindOf (P.zip vs) m x=some v
 | [],_,_,_,_,h,_,_=>by simp at h
 | _::_,[],_,_,_,_,h,_=>by simp at h
 | p::P,w::vs,0,m,nd,h1,h2,hk=>by
  simp at h1 h2;subst h1;subst h2
  show bindC kindOf ((p,w)::P.zip vs) m p=_;unfold bindC;rw[zon fun v hv=>(xdn.mp nd).1 (xks hv).1,if_neg hk];simp
 | p::P,w::vs,i+1,m,nd,h1,h2,hk=>by
  show bindC kindOf ((p,w)::P.zip vs) m x=_;unfold bindC;exact zoo (i:=i) (xdn.mp nd).2 (by simpa using h1) (by simpa using h2) hk
noncomputable def start (N:List Str) (vs:List V):St:=vs.map some++List.replicate (N.length - vs.length) none
noncomputable def cxOf (CX:CXT) (P:Program) (w:World) (K:Fg) (mg:Str->Option Value) (base:Heap) (N:List Str) (qual:Str) (scope:Scope) (f:Addr) (cd:Value) (A:Around) (outer:List Env) (s:Shared) (H:Hp) (E:XK):Cx where
 prog:=P
 w:=w
 K:=K
 mg:=mg
 base:=base
 A:=A.deeper (envOfC qual scope s.heap.objs.size f cd)
 N:=N
 s₀:=s
 H₀:=H
 env:=envOfC qual scope s.heap.objs.size f cd
 outer:=outer
 stack:=envOfC qual scope s.heap.objs.size f cd::outer
 ex:=[]
 calm:=true
 fn:=fun _=>true
 pn:=[]
 xe:=fun e s'=>wpAny (model P w) (A.deeper (envOfC qual scope s.heap.objs.size f cd)) (leaving (envOfC qual scope s.heap.objs.size f cd) e) (fun _ s''=>CX outer H s E e s'') (fun e' s''=>CX outer H s E e' s'') s'
theorem zrk {sc:Scope}{n:Nat}{x:Str}(h:sc.names.lookup x=some .cell):∃c,(cellsFrom n sc.names []).lookup x=some c:=by
 have q:=W.cellsFrom_some sc.names n [] (.inl h);exact Option.isSome_iff_exists.mp q
theorem ztt {CX:CXT}{P:Program}{w:World}{K:Fg}{mg:Str->Option Value}{base:Heap}{N ps:List Str}{qual:Str}{scope:Scope}{f:Addr}{cd:Value}{A:Around}{outer:List Env}{s s1:Shared}{H:Hp}{E:XK}{us:List Value}{vs:List V}
  (S:FnScope N ps scope)(hd:A.handled=none)(e0:Env0 P w K mg base A outer s H)(hl:vs.length=ps.length)(r:Vals vs us)
  (x:InCallC s s.heap.objs.size (bindL (envOfC qual scope s.heap.objs.size f cd).kindOf (ps.zip us) fun _=>none) (cellsFrom (s.heap.objs.size+1) scope.names []) (bindC (envOfC qual scope s.heap.objs.size f cd).kindOf (ps.zip us) fun _=>none) s1) :
  Inv (cxOf CX P w K mg base N qual scope f cd A outer s H E) [] (start N vs) H s1:=by
 have hpl:ps.length<=N.length:=by have:=congrArg List.length S.pre;rw[xco] at this;lia
 obtain⟨h1,tk,rfl,hk⟩:=x.done;have noA:∀b:Addr,b∉(cxOf CX P w K mg base N qual scope f cd A outer s H E).ex:=fun b z=>absurd (show b∈([]:List Addr) from z) (by simp)
 refine⟨⟨e0.mod,S.kind,rfl,rfl,xbg _,fun y z c h1 h2=>?_,fun y hy=>?_,fun y c _ h=>?_,fun _=>hd,Around.frames_deeper e0.frames,.inr ⟨rfl,rfl⟩,fun b z=>absurd z (noA b),e0.bs,e0.bsz,fun b _ _=>noA b,fun b z=>absurd z (noA b),e0.funs,e0.frf⟩,
  rfl,e0.bare,Un.kept hk,⟨_,x.toInCall.ns,fun i y v h1 h2 h3=>?_⟩,fun y c h=>⟨_,x.cell y c h⟩,e0.hok.fresh (xbg _),fun y c h=>?_,fun p hp=>absurd (show p∈([]:List (Addr×Obj)) from hp) (by simp),e0.hok.kept hk,?_,Hnd.none hd⟩
 ·exact name_of_addr x.apart (xfo h1) (xfo h2)
 ·have hy:scope.names.lookup y=some .cell\/scope.names.lookup y=some .free:=hy;rcases hy with hy | hy
  ·exact zrk hy
  ·exact absurd rfl (S.nofree _ (xfo hy))
 ·exact xbu (x.above y c (xfo h))
 ·have hi:i < vs.length:=by
   unfold start at h2;by_cases hi:i < vs.length
   ·exact hi
   ·rw[xcr (by simpa using hi)] at h2;rw[List.getElem?_replicate] at h2;split at h2<;>cases h2
  have ha:vs[i]?=some v:=by
   unfold start at h2;rw[xbf (by simpa using hi),xck] at h2;cases e:vs[i]? with
   | none=>rw[e] at h2;cases h2
   | some a=>rw[e] at h2;cases h2;rfl
  obtain⟨u,hu,rv⟩:=r.get ha;have hp:ps[i]?=some y:=by
   rw[← S.pre,xid (by lia)];exact h1
  have ndP:ps.Nodup:=by rw[← S.pre];exact S.nd.sublist (xkb _ _)
  refine⟨u,rv,?_⟩;rcases S.par y (xbs hp) with k | k
  ·exact .inl ⟨k,zom ndP hp hu k⟩
  ·obtain⟨c,e⟩:=zrk (n:=s.heap.objs.size+1) k;refine .inr ⟨.inl k,c,e,?_⟩;have q:=x.cell y c e;rw[zoo ndP hp hu (by show scope.names.lookup y≠_;rw[k];decide)] at q;exact q
 ·exact e0.hok.fresh (xbu (x.above y c (xfo h)))
 ·unfold start;show _=N.length;rw[xbp,xbd,xfw];lia
theorem zblc {CX:CXT}{P:Program}{w:World}{K:Fg}{mg:Str->Option Value}{base:Heap}{k:Nat}{f:Addr}{name qual:Str}{params:Arguments}{body:List Stmt}{scope:Scope}{dV kV doc pm cdv ct oc:Value}{an od:Option Addr}
  {osl:Array (Option Value)}{N ps:List Str}{sp:Sp}(lk:K.lookup f=some ⟨oc,od,.func (W.fnOf name qual params body scope dV kV doc pm an cdv ct),osl⟩)(hcd:W.codeIn K cdv qual=true)(S:FnScope N ps scope)
  (len:∀vs H Q E,sp vs H Q E->vs.length=ps.length)
  (hbody:∀(A:Around) (outer:List Env) (s:Shared) (H:Hp) (vs:List V) (Q:VK) (E:XK),Room k (A.deeper (envOfC qual scope s.heap.objs.size f cdv))->sp vs H Q E ->
   ∃t,PSs (cxOf CX P w K mg base N qual scope f cdv A outer s H E) body t/\t {nx:=fun _ H'=>Q .non H',rt:=Q} (start N vs) H) :
  FnOk P w K mg base CX (k+1) f (W.fnOf name qual params body scope dV kV doc pm an cdv ct) ps sp:=by
 refine⟨len,fun A outer s H args us vs Q E hr e0 hb r hsp=>?_⟩;have hl:=len _ _ _ _ hsp;have KX:K.In s.heap:=e0.mod.kin.keeps fun b o e=>(e0.bs b o e).1
 have lim:s.heap.NoLimit:=e0.mod.nolimit.keeps fun b o e=>(e0.bs b o e).1
 have hkind:∀y∈ps.zip us,scope.names.lookup y.1=some .local\/(scope.names.lookup y.1=some .cell/\((cellsFrom (s.heap.objs.size+1) scope.names []).lookup y.1).isSome=true):=fun hq0 hy=>by
  obtain⟨n,v⟩:=hq0;rcases S.par n (xks hy).1 with q | q
  ·exact .inl q
  ·exact .inr ⟨q,W.cellsFrom_some _ _ _ (.inl q)⟩
 refine codeAny_call_function hr.depth (KX _ _ lk) rfl S.co S.gen rfl (W.codeRec_of KX hcd) (hb _ _ _ _ ?_);refine wpAny_newFunctionEnv_cells S.kind hkind fun env he s1 x=>?_
 subst he;refine⟨lim.keeps x.toInCall.keep,codeAny_func ?_⟩;obtain⟨t,ht,hq⟩:=hbody A outer s H vs Q E (hr.deeper _) hsp;have I:Inv (cxOf CX P w K mg base N qual scope f cdv A outer s H E) [] (start N vs) H s1:=ztt S hr.hd e0 hl r x;refine xdz (ht [] s1 (start N vs) H _ I hq) (fun fl s' hs=>?_) fun e s' hs=>hs
 have fin:∀{σ':St} {H':Hp} {v:V} {u:Value},Inv (cxOf CX P w K mg base N qual scope f cdv A outer s H E) [] σ' H' s'->RelV v u->Q v H'->CE outer P w H s Q u s' :=
  fun {σ' H' v u} J rv q=>⟨v,H',J.os,J.bare,J.base,J.hok,rv,q⟩
 cases fl with
 | ret u =>
  obtain⟨v,σ',H',J,rv,q⟩:=hs;exact fin J rv q
 | next =>
  obtain⟨σ',H',J,q⟩:=hs;exact fin (v:=V.non) (u:=Value.none) J rfl q
 | brk =>
  obtain⟨_,_,_,q⟩:=hs;exact False.elim q
 | cont =>
  obtain⟨_,_,_,q⟩:=hs;exact False.elim q
section
variable {X:Cx}{x:Str}{p pos:Pos}{e:Expr}{es:List Expr}{t:TA}{id T:String}{r:List V->Hp->VK->Prop}
noncomputable def tCB (r:List V->Hp->VK->Prop) (t:TA):TE:=fun σ H Q=>t σ H fun vs H1=>r vs H1 Q
theorem zxa (hc:CallR X (.builtin id) r)(hg:Gl X x)(hm:X.mg x=none)(hv:bootBuiltins x=some (.builtin id))(ha:PA X (e::es) t)(hn:x≠"__name__":=by decide)(hdb:(x==("__debug__" : Str))=false:=by decide)
  (he:starEach (e::es) X.env=(false,eval e X.env)::starEach es X.env:=by rfl)(hpl:(backTo pos (starEach es X.env)).any (·.1)=false:=by rfl):PE X (.Call (.Name x p) (e::es) [] pos) (tCB r t):=by
 intro aA s σ H Q I h;refine xik (zpe I hg hm hv ?_ hn hdb);exact PyProof.Rows.callWith_builtin1 (thn (ha pos aA s σ H _ I h) fun us s1 ⟨vs,H1,I1,r1,q1⟩=>hc aA s1 σ H1 vs us Q I1 r1 q1) he hpl
theorem zta (hc:CallR X (.type T) r)(hg:Gl X x)(hm:X.mg x=none)(hv:bootBuiltins x=some (.type T))(ha:PA X (e::es) t)(hn:x≠"__name__":=by decide)(hdb:(x==("__debug__" : Str))=false:=by decide)
  (he:starEach (e::es) X.env=(false,eval e X.env)::starEach es X.env:=by rfl)(hpl:(backTo pos (starEach es X.env)).any (·.1)=false:=by rfl):PE X (.Call (.Name x p) (e::es) [] pos) (tCB r t):=by
 intro aA s σ H Q I h;refine xik (zpe I hg hm hv ?_ hn hdb);exact xhp (thn (ha pos aA s σ H _ I h) fun us s1 ⟨vs,H1,I1,r1,q1⟩=>hc aA s1 σ H1 vs us Q I1 r1 q1) he hpl
end
end L2
namespace HT
open PySem PyProof.Rows
noncomputable def lexLt:List Int->List Int->Bool
 | [],[]=>false
 | [],_::_=>true
 | _::_,[]=>false
 | x::xs,y::ys=>if x=y then lexLt xs ys else decide (x < y)
theorem zcz (x y:Int)(xs ys:List Int):lexLt (x::xs) (y::ys)=if x=y then lexLt xs ys else decide (x < y):=rfl
theorem zdx:lexLt [] []=false:=rfl
theorem zcj (y:Int)(ys:List Int):lexLt [] (y::ys)=true:=rfl
theorem zdk (x:Int)(xs:List Int):lexLt (x::xs) []=false:=rfl
theorem zxy (A:Around)(s:Shared)(a:Int)(t:Tok)(c:Int)(u:Tok):∃e,SeqAt.EqAt A s (.int a t) (.int c u) e/\(e=true↔a=c) :=
 ⟨(a==c),SeqAt.EqAt.int_int a t c u,by simp⟩
theorem zwj (A:Around)(s:Shared)(a:Int)(t:Tok)(c:Int)(u:Tok)(prog:Program)(w:World)(E:Value->Shared->Prop)(Q:Value->Shared->Prop)(h:Q (.bool (decide (a < c))) s) :
  wpAny (model prog w) A (richCompare .Lt (.int a t) (.int c u)) Q E s :=
 (PyProof.Rows.lt_int h:wpAny (model prog w) A (compareOp .Lt (.int a t) (.int c u)) Q E s)
section
open PySem.SeqAt
open PySem.AutoSeq1 (wpAny_loadPart')
open PySem.MeetsSeq PySem.MeetsSeq2 PySem.MeetsSeq3
theorem zgd (l b:Addr)(items items2:Array Value)(n n2:Nat)(dd dd2:Option Addr)(sl sl2:Array (Option Value))(ns ms:List Int)(hi:IntsAre items.toList ns)(hj:IntsAre items2.toList ms) :
  Meets (Builtin.«tuple.__lt__» ⟨[.ref l,.ref b],[]⟩)
   (fun _ R s=>s.heap.get? l=some { cls:=.type "tuple", dict:=dd, data:=.seq items n, slots:=sl }/\s.heap.get? b=some { cls:=.type "tuple", dict:=dd2, data:=.seq items2 n2, slots:=sl2 } /\
    R (.ok (.ret (.bool (lexLt ns ms)))) s) :=
 .of_wp fun prog w A R s h=>by
  obtain⟨hp,g,d,tk,os⟩:=s;obtain⟨hl,hb,h⟩:=h
  have f2:=AutoSeq1.sub_tuple_tuple;have z1:items.size=ns.length:=by rw[← hi.length];simp
  have z2:items2.size=ms.length:=by rw[← hj.length];simp
  wp_walk using wpAny_loadPart' hl,wpAny_loadPart' hb,wpAny_forIn_list _ (fun rest b s'=>b.1=none/\s'=⟨hp,g,d,tk,os⟩/\∃(vs ws:List Value) (ns' ms':List Int),rest=vs.zip ws /\
   IntsAre vs ns'/\IntsAre ws ms'/\ns'.length+items2.size=ms'.length+items.size/\R (.ok (.ret (.bool (lexLt ns' ms')))) ⟨hp,g,d,tk,os⟩) _
  case turn =>
   rintro⟨y,x⟩ rest b s' ⟨hb',rfl,vs,ws,ns',ms',hz,hvi,hwi,hlen,hR⟩;cases hvi with
   | nil=>rw[List.zip_nil_left] at hz;cases hz
   | cons a t hvi' =>
    cases hwi with
    | nil=>rw[List.zip_nil_right] at hz;cases hz
    | cons c u hwi' =>
     rw[List.zip_cons_cons] at hz;injection hz with hyx hrest
     injection hyx with hy hx
     subst hy hx;rw[zcz] at hR;simp only[xbv] at hlen;obtain⟨e,he,hiff⟩:=zxy A.in1 ⟨hp,g,d,tk,os⟩ a t c u;refine xba (he prog w _ _ ?_);cases e with
     | true =>
      rw[if_pos (hiff.mp rfl)] at hR
      wp_walk
      exact⟨rfl,rfl,_,_,_,_,hrest,hvi',hwi',by lia,hR⟩
     | false =>
      rw[if_neg (fun q=>absurd (hiff.mpr q) xeq)] at hR;have hri:=zwj A.in1 ⟨hp,g,d,tk,os⟩ a t c u prog w
      wp_walk using hri
      exact⟨_,rfl,by simpa using hR⟩
  case fin =>
   rintro⟨b1,b2⟩ s' ⟨hb',rfl,vs,ws,ns',ms',hz,hvi,hwi,hlen,hR⟩;simp only at hb';subst hb';have hv:lexLt ns' ms'=decide (items.size < items2.size):=by
    cases hvi with
    | nil =>
     cases hwi with
     | nil =>
      simp only[xgv] at hlen;rw[zdx];exact(xby (by lia)).symm
     | cons c u hw =>
      simp only[xgv,xbv] at hlen;rw[zcj];exact(xcc (by lia)).symm
    | cons a t hv =>
     cases hwi with
     | nil =>
      simp only[xgv,xbv] at hlen;rw[zdk];exact(xby (by lia)).symm
     | cons c u hw =>
      rw[List.zip_cons_cons] at hz;cases hz
   rw[hv] at hR
   wp_walk
   exact⟨_,rfl,by simpa [Builtin.Tuple.tupleCompareSizes] using hR⟩
  case h =>
   exact⟨rfl,rfl,items.toList,items2.toList,ns,ms,rfl,hi,hj,by lia,h⟩
end
section
variable {prog:Program}{w:World}{A:Around}{E:Value->Shared->Prop}{s:Shared}
theorem zkz {l b:Addr}{items items2:Array Value}{ns ms:List Int}{Q:Value->Shared->Prop}(hl:IsTup s.heap l items)(hb:IsTup s.heap b items2)(hi:IntsAre items.toList ns)(hj:IntsAre items2.toList ms)
  (hu:A.units < cLine)(h:Q (.bool (lexLt ns ms)) s):wpAny (model prog w) A (compareOp .Lt (.ref l) (.ref b)) Q E s:=by
 obtain⟨⟨cls,dd,data,sl⟩,ho,hc,n,hd⟩:=id hl;obtain⟨⟨cls2,dd2,data2,sl2⟩,ho2,hc2,n2,hd2⟩:=id hb;simp only at hc hd hc2 hd2;subst hc hd hc2 hd2;exact richCompare_meets_room (op:=.Lt) ⟨_,ho,rfl⟩ ⟨_,ho2,rfl⟩ xjf F.entry_tuple_lt (F.args_tuple_lt_2 _ _) (zgd l b items items2 n n2 dd dd2 sl sl2 ns ms hi hj)
  ⟨ho,ho2,show Value.bool (lexLt ns ms)≠Value.notImplemented/\Q (.bool (lexLt ns ms)) s from⟨(fun x=>nomatch x),h⟩⟩ hu
theorem zbej {t b:Addr}{vs ws:List Value}{Q:Value->Shared->Prop}(ht:IsTup s.heap t vs.toArray)(hb:IsTup s.heap b ws.toArray)(hv:vs≠[])
  (h1:ws=[]->Q (.ref t) s)(h2:ws≠[]->Q (.ref s.heap.objs.size) { s with heap:=s.heap.push { cls:=.type "tuple", data:=.seq (vs++ws).toArray } })
  (hsz:vs.length+ws.length<=sizeLine):wpAny (model prog w) A (binaryOp .Add (.ref t) (.ref b)) Q E s:=by
 obtain⟨⟨cls,dd,data,sl⟩,ho,hc,n,hd⟩:=id ht;obtain⟨⟨cls2,dd2,data2,sl2⟩,ho2,hc2,n2,hd2⟩:=id hb;simp only at hc hd hc2 hd2;subst hc hd hc2 hd2;have e:vs.toArray++ws.toArray=(vs++ws).toArray:=by simp
 by_cases hw:ws=[]
 ·exact concat_meets ⟨_,ho,rfl⟩ ⟨_,ho2,rfl⟩ noFill_tuple_add seq_tuple_add xix xim (xie _ _)
   (tuple_addW1 t b vs.toArray ws.toArray n n2 dd dd2 sl sl2 (by simpa using hv) (by simp[hw])) ⟨ho,ho2,h1 hw⟩
 ·refine concat_meets ⟨_,ho,rfl⟩ ⟨_,ho2,rfl⟩ noFill_tuple_add seq_tuple_add xix xim (xie _ _)
   (tuple_addW2 t b vs.toArray ws.toArray n n2 dd dd2 sl sl2 (by simpa using hv) (by simpa using hw) (by rw[xbw,xbw];exact hsz)) ⟨ho,ho2,?_⟩
  rw[e];exact h2 hw
noncomputable def sIx (n d:Nat):Option Int->Nat
 | none=>d
 | some v=>if v < 0 then(v+(n:Int)).toNat else min v.toNat n
theorem zpx (n d:Nat):sIx n d none=d:=rfl
theorem zuo (n d k:Nat):sIx n d (some (k:Int))=min k n:=by
 show(if(k:Int) < 0 then((k:Int)+(n:Int)).toNat else min (k:Int).toNat n)=min k n;rw[if_neg (by lia),xgf]
theorem zbft (n d:Nat)(hd:d<=n)(o:Option Int):sIx n d o<=n:=by
 cases o with
 | none=>exact hd
 | some v =>
  show(if v < 0 then(v+(n:Int)).toNat else min v.toNat n)<=n;by_cases hv:v < 0
  ·rw[if_pos hv];lia
  ·rw[if_neg hv];exact xhr _ _
theorem zvu (v:Int)(n d:Nat):(if v < 0 then max (v+(n:Int)) 0 else min v (n:Int))=((sIx n d (some v):Nat):Int):=by
 show(if v < 0 then max (v+(n:Int)) 0 else min v (n:Int))=(((if v < 0 then(v+(n:Int)).toNat else min v.toNat n):Nat):Int)
 by_cases hv:v < 0
 ·simp only[if_pos hv];lia
 ·simp only[if_neg hv];lia
theorem zry (lo hi:Option Int)(n:Nat):Builtin.Slice.sliceAdjust lo hi 1 (n:Int)=(((sIx n 0 lo:Nat):Int),((sIx n n hi:Nat):Int)):=by
 have h1:¬ ((1:Int) < 0):=by lia
 unfold Builtin.Slice.sliceAdjust;simp only[h1,xfb];refine Prod.ext ?_ ?_
 ·cases lo with
  | none=>rfl
  | some v=>exact zvu v n 0
 ·cases hi with
  | none=>rfl
  | some v=>exact zvu v n n
theorem zqg (i j:Nat):Builtin.Slice.slicePlaces (i:Int) (j:Int) 1=j - i:=by
 unfold Builtin.Slice.slicePlaces;have h1:(1:Int) > 0:=by lia
 simp only[h1,xfl,Int.ediv_one];split<;>lia
theorem zku {v:Value}{o:Option Int}{Q:Option Int->Shared->Prop}(p:IsPart v o)(h:Q o s):wpAny (model prog w) A (Builtin.Slice.slicePartIndex v) Q E s:=by
 cases p with
 | none=>exact slicePart_none h
 | int i t=>exact slicePart_int h
theorem zdt {sl:Addr}{vl vu:Value}{lo hi:Option Int}{n:Nat}{Q:Int×Int×Nat->Shared->Prop}(hs:s.heap.IsSliceOf sl vl vu .none)(pl:IsPart vl lo)(pu:IsPart vu hi)
  (h:Q (((sIx n 0 lo:Nat):Int),1,sIx n n hi - sIx n 0 lo) s):wpAny (model prog w) A (Builtin.Slice.sliceApplied (.ref sl) (pure (n:Int))) Q E s:=by
 obtain⟨os,hos,hcs,hds⟩:=id hs;unfold Builtin.Slice.sliceApplied Builtin.Slice.sliceFields;refine xba (xba (xjw hos hds (x:=vl) rfl (xba (xjw hos hds (x:=vu) rfl (xba (xjw hos hds (x:=.none) rfl (xbl ?_)))))));refine xba (slicePart_none ?_);show wpAny _ _ (if((1:Int)==0)=true then _ else _) _ _ s;rw[if_neg (by decide)];refine xba (zku pl (xba (zku pu (xba (xbl ?_)))));show wpAny _ _ (match Builtin.Slice.sliceAdjust lo hi 1 (n:Int) with | (lo,hi)=>pure (lo,(1:Int),Builtin.Slice.slicePlaces lo hi 1)) _ _ s;rw[zry lo hi n];show wpAny _ _ (pure (((sIx n 0 lo:Nat):Int),(1:Int),Builtin.Slice.slicePlaces ((sIx n 0 lo:Nat):Int) ((sIx n n hi:Nat):Int) 1)) _ _ s;rw[zqg];exact xbl h
theorem zwq (xs:Array Value)(i k:Nat):((List.range k).filterMap fun(m:Nat)=>xs[((i:Int)+(m:Int) * 1).toNat]?).toArray=((xs.toList.drop i).take k).toArray:=by
 have e:(fun(m:Nat)=>xs[((i:Int)+(m:Int) * 1).toNat]?)=fun m=>xs[i+m]?:=by
  funext m
  have:((i:Int)+(m:Int) * 1).toNat=i+m:=by lia
  rw[this]
 rw[e];have:=pick_run xs i k;rw[List.filterMap_map] at this;have e2:((fun x=>xs[x]?) ∘ fun x=>i+x)=fun m=>xs[i+m]?:=rfl
 rw[e2] at this;rw[this]
theorem zgk {t sl:Addr}{items:Array Value}{vl vu:Value}{lo hi:Option Int}{Q:Value->Shared->Prop}(ht:IsTup s.heap t items)(hs:s.heap.IsSliceOf sl vl vu .none)(pl:IsPart vl lo)(pu:IsPart vu hi)
  (hw:¬ (sIx items.size 0 lo=0/\sIx items.size items.size hi=items.size))
  (h:Q (.ref s.heap.objs.size) { s with heap:=s.heap.push { cls:=.type "tuple", data:=.seq ((items.toList.drop (sIx items.size 0 lo)).take (sIx items.size items.size hi - sIx items.size 0 lo)).toArray } })
  (hsz:items.size<=sizeLine):wpAny (model prog w) A (getItem (.ref t) (.ref sl)) Q E s:=by
 have htake:sizeOk (.seq ((items.toList.drop (sIx items.size 0 lo)).take (sIx items.size items.size hi - sIx items.size 0 lo)).toArray):=by
  show((items.toList.drop (sIx items.size 0 lo)).take (sIx items.size items.size hi - sIx items.size 0 lo)).toArray.size<=sizeLine;rw[xbw,xco,xer,xcd];lia
 have hj:sIx items.size items.size hi<=items.size:=zbft _ _ (xbg _) hi;obtain⟨os,hos,hcs,hds⟩:=id hs;have hTs:s.TypeIs (.ref sl) "slice":=⟨os, hos, hcs⟩
 unfold getItem
 try with_reducible refine xen ?_
 first | refine xba (xbl ?_) | skip
 refine xba (wpAny_sequenceKey ht.typeIs (by decide) ?_)
 refine xba (wpAny_callSpecial?_slot (name:=Str.ofString "__getitem__") ht.typeIs xgl
  (xfh xgl ht.typeIs entry_tuple_getitem ?_ (args_tuple_getitem _ _)))
 show wpAny _ _ (Builtin.Tuple.tupleItemsOf (.ref t) >>= _) _ _ s;refine xba (tupleItemsOf_ ht ?_);refine xba (wpAny_typeOf hTs ?_);rw[if_pos (by decide)];refine xba (zdt hs pl pu ?_);have hno:¬ ((((sIx items.size 0 lo:Nat):Int)==0&&(1:Int)==1&&(sIx items.size items.size hi - sIx items.size 0 lo)==items.size)=true):=by
  intro q;rw[xdp,xdp] at q;have q1:((sIx items.size 0 lo:Nat):Int)=0:=eq_of_beq q.1.1;have q2:sIx items.size items.size hi - sIx items.size 0 lo=items.size:=eq_of_beq q.2;exact hw ⟨by lia,by lia⟩
 show wpAny _ _ (if(((sIx items.size 0 lo:Nat):Int)==0&&(1:Int)==1&&(sIx items.size items.size hi - sIx items.size 0 lo)==items.size)=true then _ else _) _ _ s;rw[if_neg hno,zwq]
 first
  | exact xba (m:=Builtin.Tuple.tupleExact _) (xfc (xbl ⟨_,rfl,xbl h⟩) htake)
  | exact xba (m:=Builtin.Tuple.tupleExact _) (xfc (xba (xbl (xbl ⟨_,rfl,xbl h⟩))) htake)
  | exact xba (xba (m:=Builtin.Tuple.tupleExact _) (xfc (xbl (xbl ⟨_,rfl,xbl h⟩)) htake))
  | exact xba (xba (m:=Builtin.Tuple.tupleExact _) (xfc (xbl ⟨_,rfl,xbl h⟩) htake))
end
end HT
namespace L2
open PySem PySem.Spec PyProof.Rows
noncomputable abbrev TO:=St->Hp->(Option Int->Hp->Prop)->Prop
noncomputable def PO (X:Cx) (e:Option Expr) (t:TO):Prop :=
 ∀(aA:List (Addr×Obj)) (s:Shared) (σ:St) (H:Hp) (Q:Option Int->Hp->Prop),Inv X aA σ H s->t σ H Q ->
  wpAny (model X.prog X.w) X.A (evalPart e X.env) (fun u s'=>∃o H',Inv X aA σ H' s'/\IsPart u o/\Q o H') X.xe s
noncomputable def tNoPart:TO:=fun _ H Q=>Q none H
noncomputable def tPart (t:TE):TO:=fun σ H Q=>t σ H fun x H1=>∃i,x=.int i/\Q (some i) H1
theorem zfj {ns:List Int}:∀{us:List Value},Vals (ns.map V.int) us->IntsAre us ns:=by
 induction ns with
 | nil=>intro us r;rw[xki] at r;cases r;exact .nil
 | cons n ns ih =>
  intro us r;rw[xbq] at r;cases r with
  | cons r1 r2 =>
   obtain⟨t,e⟩:=r1;subst e;exact .cons n t (ih r2)
section
variable {X:Cx}{e:Expr}{te:TE}{lo hi:Option Expr}{tl th:TO}{pos p2:Pos}
theorem zbbe:PO X none tNoPart:=by
 intro aA s σ H Q I h;rw[evalPart_none];exact xbl ⟨none,H,I,.none,h⟩
theorem zbbd (h:PE X e te):PO X (some e) (tPart te):=by
 intro aA s σ H Q I hw;rw[evalPart_some];refine thn (h aA s σ H _ I hw) fun u s1 hq0=>?_
 obtain⟨x,H1,I1,r1,q1⟩:=hq0;obtain⟨i,rfl,q⟩:=q1;obtain⟨t,rfl⟩:=r1;exact⟨some i,H1,I1,.int i t,q⟩
noncomputable def SlR (X:Cx) (r:V->Option Int->Option Int->Hp->VK->Prop):Prop :=
 ∀(aA:List (Addr×Obj)) (s:Shared) (σ:St) (H:Hp) (x:V) (v vl vu:Value) (lo hi:Option Int) (sl:Addr) (Q:VK),Inv X aA σ H s->RelV x v->s.heap.IsSliceOf sl vl vu .none->IsPart vl lo->IsPart vu hi->r x lo hi H Q ->
  ∃ T id, typeLookup (.type T) "__getitem__"=pure (some (.builtin id))/\s.TypeIs v T/\wpAny (model X.prog X.w) X.A (getItem v (.ref sl)) (EP X aA σ Q) X.xe s
theorem SlR.or {r r':V->Option Int->Option Int->Hp->VK->Prop}(h:SlR X r)(h':SlR X r'):SlR X (fun x lo hi H Q=>r x lo hi H Q\/r' x lo hi H Q):=by
 intro aA s σ H x v vl vu lo hi sl Q I rx hs pl pu q;rcases q with q | q
 ·exact h aA s σ H x v vl vu lo hi sl Q I rx hs pl pu q
 ·exact h' aA s σ H x v vl vu lo hi sl Q I rx hs pl pu q
noncomputable def tSl (r:V->Option Int->Option Int->Hp->VK->Prop) (te:TE) (tl th:TO):TE:=fun σ H Q=>te σ H fun x H1=>tl σ H1 fun l H2=>th σ H2 fun u H3=>r x l u H3 Q
theorem zwt {r:V->Option Int->Option Int->Hp->VK->Prop}(hr:SlR X r)(he:PE X e te)(hl:PO X lo tl)(hu:PO X hi th):PE X (.Subscript e (.Slice lo hi none p2) pos) (tSl r te tl th):=by
 intro aA s σ H Q I h;refine Subscript_ (thn (he aA s σ H _ I h) fun v s1 hq0=>?_);obtain⟨x,H1,I1,r1,q1⟩:=hq0;refine wpAny_Slice (thn (hl aA s1 σ H1 _ I1 q1) fun vl s2 ⟨l,H2,I2,pl,q2⟩=>thn (hu aA s2 σ H2 _ I2 q2) fun vu s3 hq0=>?_);obtain⟨u,H3,I3,pu,q3⟩:=hq0;rw[evalPart_none];refine xbl ?_;have I4:Inv X aA σ H3 { s3 with heap:=s3.heap.push { cls:=.type "slice", data:=.fields #[vl, vu, .none] } }:=I3.kept (t':=s3.toks) fun b ob q=>xbo _ q
 obtain⟨T, id, hT, ht, hg⟩:=hr aA { s3 with heap:=s3.heap.push { cls:=.type "slice", data:=.fields #[vl, vu, .none] } } σ H3 x v vl vu l u s3.heap.objs.size Q I4 r1 (Heap.IsSliceOf.new ..) pl pu q3
 show wpAny (model X.prog X.w) X.A (subscriptTail e (.Slice lo hi none p2) v (.ref s3.heap.objs.size)) (EP X aA σ Q) X.xe { s3 with heap:=s3.heap.push { cls:=.type "slice", data:=.fields #[vl, vu, .none] } }
 exact tail_any (ops:=[.ref s3.heap.objs.size,v]) ht hT hg (by with_unfolding_all rfl)
noncomputable def cutV (xs:List V) (lo hi:Option Int):List V:=(xs.drop (HT.sIx xs.length 0 lo)).take (HT.sIx xs.length xs.length hi - HT.sIx xs.length 0 lo)
theorem zjg (xs:List V)(lo hi:Option Int):(cutV xs lo hi).length<=xs.length:=by
 unfold cutV;rw[xco,xer];lia
noncomputable def rSlT (K:Fg):V->Option Int->Option Int->Hp->VK->Prop:=fun x lo hi H Q=>∃a xs,x=.ref a/\SqT K H a xs /\
 ¬ (HT.sIx xs.length 0 lo=0/\HT.sIx xs.length xs.length hi=xs.length)/\∀p,H p=none->Q (.ref p) (upd H p (.tup (cutV xs lo hi)))
theorem zbfl:SlR X (rSlT X.K):=by
 intro aA s σ H x v vl vu lo hi sl Q I rx hs pl pu h;obtain⟨a,xs,rfl,hx,hw,q⟩:=h;cases rx;obtain⟨its,r,ht,hz⟩:=I.tuple hx;have hlen:its.toArray.size=xs.length:=by rw[xbw];exact r.length.symm
 refine⟨"tuple", _, xgl.lookup, ht.typeIs, ?_⟩
 refine HT.zgk ht hs pl pu (by rw[hlen];exact hw) ?_ (by rw[hlen];exact hz);rw[hlen];refine⟨.ref s.heap.objs.size,_,I.laid (t':=s.toks) (o:=.tup (cutV xs lo hi)) (fun b ob q=>xbo _ q) (xbg _) ?_,rfl,q _ (I.hok.fresh (xbg _))⟩;exact⟨xbb (zjg xs lo hi) hz,_,(r.drop (HT.sIx xs.length 0 lo)).take (HT.sIx xs.length xs.length hi - HT.sIx xs.length 0 lo),IsTup.new _ _⟩
noncomputable def rLtT (K:Fg):R2:=fun x y H Q=>∃a b ns ms,x=.ref a/\y=.ref b/\SqT K H a (ns.map V.int)/\SqT K H b (ms.map V.int)/\Q (.bl (HT.lexLt ns ms)) H
theorem zbgs (hu:X.A.units < cLine):OpR X (compareOp .Lt) (rLtT X.K):=by
 intro aA s σ H x y v u Q I rx ry h;obtain⟨a,b,ns,ms,rfl,rfl,ha,hb,q⟩:=h;cases rx;cases ry;obtain⟨its,r1,p1,_⟩:=I.tuple ha;obtain⟨its2,r2,p2,_⟩:=I.tuple hb;have i1:IntsAre its.toArray.toList ns:=zfj r1;have i2:IntsAre its2.toArray.toList ms:=zfj r2;exact HT.zkz p1 p2 i1 i2 hu ⟨.bl (HT.lexLt ns ms),H,I,rfl,q⟩
noncomputable def rCatT (K:Fg):R2:=fun x y H Q=>∃a b xs ys,x=.ref a/\y=.ref b/\SqT K H a xs/\SqT K H b ys/\xs≠[]/\xs.length+ys.length<=sizeLine /\
 (ys=[]->Q (.ref a) H)/\(ys≠[]->∀p,H p=none->Q (.ref p) (upd H p (.tup (xs++ys))))
theorem Vals.nil_iff {xs:List V}{us:List Value}(r:Vals xs us):us=[]↔xs=[]:=by
 cases r with
 | nil=>simp
 | cons _ _=>simp
theorem zbbw:OpR X (binaryOp .Add) (rCatT X.K):=by
 intro aA s σ H x y v u Q I rx ry h;obtain⟨a,b,xs,ys,rfl,rfl,ha,hb,hx,hz,q1,q2⟩:=h;cases rx;cases ry;obtain⟨its,r1,p1,_⟩:=I.tuple ha;obtain⟨its2,r2,p2,_⟩:=I.tuple hb;refine HT.zbej p1 p2 (fun z=>hx (r1.nil_iff.mp z)) (fun z=>⟨.ref a,H,I,rfl,q1 (r2.nil_iff.mp z)⟩) (fun z=>?_) (by rw[← r1.length,← r2.length];exact hz);refine⟨.ref s.heap.objs.size,_,I.laid (t':=s.toks) (o:=.tup (xs++ys)) (fun b ob q=>xbo _ q) (xbg _) ?_,rfl,q2 (fun w=>z (r2.nil_iff.mpr w)) _ (I.hok.fresh (xbg _))⟩;exact⟨by rw[xbp];exact hz,_,r1.append r2,IsTup.new _ _⟩
end
noncomputable def ixN (n:Nat) (i:Int):Option Nat:=if 0<=i then(if i < n then some i.toNat else none) else if -(n:Int)<=i then some (i+n).toNat else none
noncomputable def atI {α:Type} (xs:List α) (i:Int):Option α:=(ixN xs.length i).bind fun j=>xs[j]?
theorem zvj {n:Nat}{i:Int}{j:Nat}(h:ixN n i=some j):seqIndex? i n=some j/\j < n/\-(n:Int)<=i/\i < n:=by
 unfold ixN at h;by_cases h0:0<=i
 ·rw[if_pos h0] at h;by_cases h1:i < n
  ·rw[if_pos h1] at h;have e:i.toNat=j:=xcp h;exact⟨by rw[seqIndex_of h0 h1,e],by lia,by lia,h1⟩
  ·rw[if_neg h1] at h;cases h
 ·rw[if_neg h0] at h;by_cases h1:-(n:Int)<=i
  ·rw[if_pos h1] at h;have e:(i+n).toNat=j:=xcp h;exact⟨by rw[seqIndex_neg (by lia) h1,e],by lia,h1,by lia⟩
  ·rw[if_neg h1] at h;cases h
theorem zrt {α:Type}{xs:List α}{i:Int}{v:α}(h:atI xs i=some v):∃j,seqIndex? i xs.length=some j/\xs[j]?=some v/\j < xs.length/\-(xs.length:Int)<=i/\i < xs.length:=by
 unfold atI at h;cases e:ixN xs.length i with
 | none=>rw[e] at h;cases h
 | some j =>
  rw[e] at h;obtain⟨h1,h2,h3,h4⟩:=zvj e;exact⟨j,h1,h,h2,h3,h4⟩
theorem zrs {α:Type}{xs:List α}{j:Nat}{v:α}(h:xs[j]?=some v):atI xs (j:Int)=some v:=by
 have hj:j < xs.length:=(xbc.mp h).1;have e:ixN xs.length (j:Int)=some j:=by
  unfold ixN;rw[if_pos (by lia),if_pos (by lia)];simp
 unfold atI;rw[e];exact h
noncomputable def PlainIx (b:Expr):Prop:=∀o i,subscripted b false o i=operate [o,i] (getItem o i)
noncomputable def IxR (X:Cx) (r:R2):Prop :=
 ∀(value slice:Expr) (aA:List (Addr×Obj)) (s:Shared) (σ:St) (H:Hp) (x y:V) (v u:Value) (Q:VK),Inv X aA σ H s->RelV x v->RelV y u->r x y H Q ->
  subscripted slice false v u=operate [v,u] (getItem v u)->wpAny (model X.prog X.w) X.A (subscriptTail value slice v u) (EP X aA σ Q) X.xe s
noncomputable def MtR (X:Cx) (id:String) (r:V->List V->Hp->VK->Prop):Prop :=
 ∀(aA:List (Addr×Obj)) (s:Shared) (σ:St) (H:Hp) (x:V) (xs:List V) (v:Value) (us:List Value) (Q:VK),Inv X aA σ H s->RelV x v->Vals xs us->r x xs H Q ->
  wpAny (model X.prog X.w) X.A (call (.builtin id) (v::us)) (EP X aA σ Q) X.xe s
section
variable {X:Cx}{a b:Expr}{ta tb:TE}{pos:Pos}
theorem IxR.or {r r':R2}(h:IxR X r)(h':IxR X r'):IxR X (fun x y H Q=>r x y H Q\/r' x y H Q):=by
 intro value slice aA s σ H x y v u Q I rx ry q hs;rcases q with q | q
 ·exact h value slice aA s σ H x y v u Q I rx ry q hs
 ·exact h' value slice aA s σ H x y v u Q I rx ry q hs
theorem zbkq {r:R2}(hr:IxR X r)(ha:PE X a ta)(hb:PE X b tb)(hs:PlainIx b):PE X (.Subscript a b pos) (tOp r ta tb):=by
 intro aA s σ H Q I h;exact Subscript_ (binT ha hb I h fun v u s2 x y H2 I2 rx ry q=>hr a b aA s2 σ H2 x y v u Q I2 rx ry q (hs _ _))
noncomputable def rIxL (K:Fg):R2:=fun x y H Q=>∃p xs i v,x=.ref p/\y=.int i/\SqL K H p xs/\atI xs i=some v/\Q v H
noncomputable def rIxT (K:Fg):R2:=fun x y H Q=>∃p xs i v,x=.ref p/\y=.int i/\SqT K H p xs/\atI xs i=some v/\Q v H
noncomputable def rIxS:R2:=fun x y H Q=>∃z i c,x=.str z/\y=.int i/\z.length<=sizeLine/\atI z.cps.toList i=some c/\Q (.str ⟨#[c]⟩) H
theorem zbcy:IxR X (rIxL X.K):=by
 intro value slice aA s σ H x y v u Q I rx ry h hs;obtain⟨p,xs,i,z,rfl,rfl,hq,he,q⟩:=h;cases rx;obtain⟨t,rfl⟩:=ry;obtain⟨its,r,pl,hz⟩:=I.list hq;obtain⟨j,h1,h2,h3,h4,h5⟩:=zrt he;obtain⟨w,ew,rw'⟩:=r.get h2;have hl:=r.length;have hn:=line63;have fin:EP X aA σ Q w s:=⟨z,H,I,rw',q⟩
 by_cases h0:0<=i
 ·have hj:i.toNat=j:=by
   rw[seqIndex_of h0 h5] at h1;exact xcp h1
  exact item_listR pl.isList h0 (by lia) (by rw[hj];simpa using ew) fin hs
 ·have hj:(i+(its.toArray.size:Int)).toNat=j:=by
   rw[seqIndex_neg (by lia) h4] at h1;rw[xbw,← hl];exact xcp h1
  exact subscriptTail_builtinR (x:=w) pl.isList.typeIs slot_list_getitem.lookup
   (wpAny_getItem_list_neg (Q:=fun r s'=>r=w/\EP X aA σ Q r s') pl.isList (by lia) (by rw[xbw]<;>lia) (by lia) (by rw[hj];simpa using ew) ⟨rfl,fin⟩) hs
theorem zbhi:IxR X (rIxT X.K):=by
 intro value slice aA s σ H x y v u Q I rx ry h hs;obtain⟨p,xs,i,z,rfl,rfl,hq,he,q⟩:=h;cases rx;obtain⟨t,rfl⟩:=ry;obtain⟨its,r,pl,hz⟩:=I.tuple hq;obtain⟨j,h1,h2,h3,h4,h5⟩:=zrt he;obtain⟨w,ew,rw'⟩:=r.get h2;have hl:=r.length;have hn:=line63;have fin:EP X aA σ Q w s:=⟨z,H,I,rw',q⟩
 exact subscriptTail_builtinR (x:=w) pl.typeIs xil.lookup
  (getItem_tuple (j:=j) (Q:=fun r s'=>r=w/\EP X aA σ Q r s') pl (by lia) (by lia) (by rw[xbw,← hl];exact h1) (by simpa using ew) ⟨rfl,fin⟩) hs
theorem zbhj:IxR X rIxS:=by
 intro value slice aA s σ H x y v u Q I rx ry h hs;obtain⟨z,i,c,rfl,rfl,hz,he,q⟩:=h;obtain⟨t,rfl⟩:=rx;obtain⟨t',rfl⟩:=ry;obtain⟨j,h1,h2,h3,h4,h5⟩:=zrt he;have hl:z.cps.toList.length=z.length:=by simp[Str.length]
 rw[hl] at h1 h4 h5;have hn:=line63
 exact tail_any (typeIs_str s z t) slot_str_getitem.lookup (getItem_str (c:=c) (by
  have e1:decide (i < -(2 ^ 63:Int))=false:=xby (by lia);have e2:decide (i ≥ 2 ^ 63)=false:=xby (by lia)
  rw[e1,e2,Bool.or_false]) (by rw[h1];simpa using h2) ⟨.str ⟨#[c]⟩,H,I.tok _,⟨_,rfl⟩,q⟩) hs
noncomputable def rIx (K:Fg):R2:=fun x y H Q=>rIxL K x y H Q\/rIxT K x y H Q\/rIxS x y H Q
theorem zbhk:IxR X (rIx X.K):=zbcy.or (zbhi.or zbhj)
theorem zqt (its:List Value)(n j:Nat)(u:Value):Obj.mapSeq (·.setIfInBounds j u) { cls:=.type "list", data:=.seq its.toArray n }={ cls:=.type "list", data:=.seq (its.set j u).toArray n }:=by
 simp[Obj.mapSeq]
theorem Inv.lst {aA:List (Addr×Obj)}{σ:St}{H:Hp}{s:Shared}{p:Addr}{xs:List V}(I:Inv X aA σ H s)(h:H p=some (.lst xs)) :
  ∃(its:List Value) (n:Nat), Vals xs its/\s.heap.get? p=some { cls:=.type "list", data:=.seq its.toArray n }/\xs.length<=sizeLine:=by
 obtain⟨z,its,n,r,e⟩:=I.hok p _ h;exact⟨its,n,r,e,z⟩
theorem Inv.lstUpd {aA:List (Addr×Obj)}{σ:St}{H:Hp}{s:Shared}{p:Addr}{xs ys:List V}{its its':List Value}{n n':Nat}{f:Obj->Obj}(I:Inv X aA σ H s)(h:H p=some (.lst xs))
  (ho:s.heap.get? p=some { cls:=.type "list", data:=.seq its.toArray n })(hf:f { cls:=.type "list", data:=.seq its.toArray n }={ cls:=.type "list", data:=.seq its'.toArray n' })(r:Vals ys its')(hz:ys.length<=sizeLine)(t:Nat) :
  Inv X aA σ (upd H p (.lst ys)) {s with heap:=s.heap.update p f,toks:=t}:=by
 have e:(s.heap.update p f).get? p=some { cls:=.type "list", data:=.seq its'.toArray n' }:=by
  rw[xhi f ho (by rw[hf]<;>rfl),hf]
 refine I.write (x:=p) (e:=p) (by rw[h];trivial) (.inl rfl) (fun b u hb q=>(Heap.get?_update_other _ _ (xel hb)).trans q) ⟨_,e⟩ ?_;exact⟨hz,its',n',r,e⟩
noncomputable def rSetL:V->V->V->Hp->(Hp->Prop)->Prop:=fun o i v H Q=>∃p xs k j,o=.ref p/\i=.int k/\H p=some (.lst xs)/\ixN xs.length k=some j/\Q (upd H p (.lst (xs.set j v)))
theorem zwd:PSet X rSetL:=by
 intro aA s σ H o i v ov iv u Q I ro ri rv h;obtain⟨p,xs,k,j,rfl,rfl,hp,hj,q⟩:=h;cases ro;obtain⟨t,rfl⟩:=ri;obtain⟨its,n,r,ho,hz⟩:=I.lst hp;obtain⟨h1,h2,h3,h4⟩:=zvj hj;have hl:=r.length;have hn:=line63;have I':Inv X aA σ (upd H p (.lst (xs.set j v))) {s with heap:=s.heap.update p (Obj.mapSeq (·.setIfInBounds j u))} :=
  I.lstUpd hp ho (zqt its n j u) (r.set rv j) (by rw[xcm];exact hz) s.toks
 by_cases h0:0<=k
 ·have hk:k.toNat=j:=by
   rw[seqIndex_of h0 h4] at h1;exact xcp h1
  exact W.ki_setAt ho h0 (by lia) (by rw[xbw,← hl];exact h4) (by rw[hk];exact⟨_,I',q⟩)
 ·have hk:(k+(its.toArray.size:Int)).toNat=j:=by
   rw[seqIndex_neg (by lia) h3] at h1;rw[xbw,← hl];exact xcp h1
  exact W.ki_setBack ho (by lia) (by rw[xbw,← hl];exact h3) (by lia) (by rw[hk];exact⟨_,I',q⟩)
theorem zlq (lo hi:Option Int)(n:Nat):(sliceBounds lo hi none n).1=((HT.sIx n 0 lo:Nat):Int)/\(sliceBounds lo hi none n).2.1=((HT.sIx n n hi:Nat):Int)/\(sliceBounds lo hi none n).2.2=1:=by
 refine⟨?_,?_,rfl⟩
 ·cases lo with
  | none=>simp[sliceBounds,HT.sIx]
  | some i =>
   simp only[sliceBounds,HT.sIx,Option.getD_none,show(1:Int) > 0 by decide,xfl];by_cases h:i < 0
   ·simp only[h,xfl]<;>lia
   ·simp only[h,xfb]<;>lia
 ·cases hi with
  | none=>simp[sliceBounds,HT.sIx]
  | some i =>
   simp only[sliceBounds,HT.sIx,Option.getD_none,show(1:Int) > 0 by decide,xfl];by_cases h:i < 0
   ·simp only[h,xfl]<;>lia
   ·simp only[h,xfb]<;>lia
theorem zkt (its:List Value)(lo hi:Option Int):slicePick its.toArray lo hi none=((its.drop (HT.sIx its.length 0 lo)).take (HT.sIx its.length its.length hi - HT.sIx its.length 0 lo)).toArray:=by
 obtain⟨h1,h2,h3⟩:=zlq lo hi its.toArray.size;unfold slicePick;rw[h1,h2,h3];simp only[sliceRange_one,pick_run,xbw]<;>rfl
noncomputable def rSlL (K:Fg):V->Option Int->Option Int->Hp->VK->Prop:=fun x lo hi H Q=>∃a xs,x=.ref a/\SqL K H a xs/\∀p,H p=none->Q (.ref p) (upd H p (.lst (cutV xs lo hi)))
theorem zbam:SlR X (rSlL X.K):=by
 intro aA s σ H x v vl vu lo hi sl Q I rx hs pl pu h;obtain⟨a,xs,rfl,hx,q⟩:=h;cases rx;obtain⟨its,r,ht,hz⟩:=I.list hx;have hlen:=r.length;refine⟨"list", _, slot_list_getitem.lookup, ht.isList.typeIs, ?_⟩
 refine wpAny_getItem_list_slice ht.isList hs pl pu .none (by simp) ?_ (by rw[xbw]<;>lia);rw[zkt,← hlen];refine⟨.ref s.heap.objs.size,_,I.laid (t':=s.toks) (o:=.lst (cutV xs lo hi)) (fun b ob q=>xbo _ q) (xbg _) ?_,rfl,q _ (I.hok.fresh (xbg _))⟩;exact⟨xbb (zjg xs lo hi) hz,_,0,(r.drop (HT.sIx xs.length 0 lo)).take (HT.sIx xs.length xs.length hi - HT.sIx xs.length 0 lo),xce _ rfl⟩
theorem zbo:CallR X (.builtin "len") (fun xs H Q=>∃ p ys, xs=[.ref p]/\(SqL X.K H p ys\/SqT X.K H p ys)/\Q (.int ys.length) H):=by
 intro aA s σ H xs us Q I r h;obtain⟨p,ys,rfl,hq,q⟩:=h;obtain⟨u,rfl,rx⟩:=vals1 r;cases rx;have hn:=line63;rcases hq with hq | hq
 ·obtain⟨its,r',pl,hz⟩:=I.list hq;have hlen:=r'.length;exact Calls.call_len_list pl.isList (by simp only[xbw]<;>lia) ⟨.int ys.length,H,I.tok _,⟨s.toks+1,by rw[xbw,hlen]⟩,q⟩
 ·obtain⟨its,r',pl,hz⟩:=I.tuple hq;have hlen:=r'.length;exact len_tuple pl (by simp only[xbw]<;>lia) ⟨.int ys.length,H,I.tok _,⟨s.toks+1,by rw[xbw,hlen]⟩,q⟩
theorem CallR.or {f:Value}{r r':List V->Hp->VK->Prop}(h:CallR X f r)(h':CallR X f r'):CallR X f (fun xs H Q=>r xs H Q\/r' xs H Q):=by
 intro aA s σ H xs us Q I rs q;rcases q with q | q
 ·exact h aA s σ H xs us Q I rs q
 ·exact h' aA s σ H xs us Q I rs q
theorem zdz:CallR X (.type "tuple") (fun xs H Q=>∃ p ys, xs=[.ref p]/\((SqL X.K H p ys/\∀ l, H l=none->Q (.ref l) (upd H l (.tup ys)))\/(SqT X.K H p ys/\Q (.ref p) H))):=by
 intro aA s σ H xs us Q I r h;obtain⟨p,ys,rfl,h⟩:=h;obtain⟨u,rfl,rx⟩:=vals1 r;cases rx;rcases h with⟨hq,q⟩ | ⟨hq,q⟩
 ·obtain⟨its,r',pl,hz⟩:=I.list hq;have hlen:=r'.length;refine call_tuple_list pl.isList (fun h' kp=>?_) (by simp only[xbw]<;>lia);have I1:Inv X aA σ H {s with heap:=h'}:=I.kept (t':=s.toks) kp;have I2:Inv X aA σ (upd H h'.objs.size (.tup ys)) { s with heap:=h'.push { cls:=.type "tuple", data:=.seq its.toArray } } :=
   I1.laid (t':=s.toks) (fun b o e=>xbo _ e) (xbg _) (show ObjOk X.prog X.w _ _ _ (.tup ys) from⟨hz,its,r',IsTup.new _ _⟩)
  exact⟨.ref h'.objs.size,_,I2,rfl,q _ (I1.hok.fresh (xbg _))⟩
 ·obtain⟨its,r',pl,hz⟩:=I.tuple hq;exact call_tuple_same pl ⟨.ref p,H,I,rfl,q⟩
noncomputable def tyV (K:Fg) (T:String) (x:V) (H:Hp):Prop:=match x with
 | .str _=>T="str"
 | .int _=>T="int"
 | .ref p=>(T="list"/\∃ xs, SqL K H p xs)\/(T="tuple"/\∃ o, K.lookup p=some o/\o.cls=.type "tuple"/\o.dict=none) \/
  (T="dict"/\((∃ kvs, H p=some (.dK kvs))\/∃ kvs, H p=some (.dT kvs)))\/(T="set"/\∃ S n, H p=some (.set S n))
 | _=>False
theorem zbfi {aA:List (Addr×Obj)}{σ:St}{H:Hp}{s:Shared}{T:String}{x:V}{v:Value}(I:Inv X aA σ H s)(r:RelV x v)(ty:tyV X.K T x H) :
  s.TypeIs v T/\∀a,v=.ref a->∃ob,s.heap.get? a=some ob/\ob.dict=none:=by
 cases x with
 | str z =>
  obtain⟨t,rfl⟩:=r;cases(show T="str" from ty)
  exact⟨typeIs_str s z t,fun _ e=>nomatch e⟩
 | int i =>
  obtain⟨t,rfl⟩:=r;cases(show T="int" from ty)
  exact⟨typeIs_int s i t,fun _ e=>nomatch e⟩
 | ref p =>
  cases r;rcases ty with⟨rfl,xs,hq⟩ | ⟨rfl,o,hk,hc,hd⟩ | ⟨rfl,hk⟩ | ⟨rfl,S,n,hk⟩
  ·obtain⟨its,_,pl,_⟩:=I.list hq;refine⟨pl.isList.typeIs,fun a e=>?_⟩;cases e;obtain⟨o,n,e,c,hd,_⟩:=pl;exact⟨o,e,hd⟩
  ·refine⟨⟨o,I.kIn p o hk,hc⟩,fun a e=>?_⟩;cases e;exact⟨o,I.kIn _ o hk,hd⟩
  ·have z:∃o,s.heap.get? p=some o/\o.ExactDict:=by
    rcases hk with⟨kvs,hk⟩ | ⟨kvs,hk⟩
    ·obtain⟨_,_,_,_,o,_,_,e,ex,_⟩:=I.hok p _ hk;exact⟨o,e,ex⟩
    ·obtain⟨_,_,_,_,o,_,_,e,ex,_⟩:=I.hok p _ hk;exact⟨o,e,ex⟩
   obtain⟨o,e,ex⟩:=z;refine⟨⟨o,e,ex.1⟩,fun a e2=>?_⟩;cases e2;exact⟨o,e,ex.2.1⟩
  ·obtain⟨o,_,_,_,e,ex,_⟩:=I.hok p _ hk;refine⟨⟨o,e,ex.1⟩,fun a e2=>?_⟩;cases e2;exact⟨o,e,ex.2.1⟩
 | _=>exact False.elim ty
noncomputable def tBM (K:Fg) (T:String) (r:V->List V->Hp->VK->Prop) (to:TE) (t:TA):TE:=fun σ H Q=>to σ H fun x H1=>tyV K T x H1/\t σ H1 fun xs H2=>r x xs H2 Q
variable {o e:Expr}{es:List Expr}{to:TE}{t:TA}{name:Str}{apos cpos:Pos}{T id:String}{r:V->List V->Hp->VK->Prop}
theorem zbey (pa:PlainAttrs T)(slot:Slot T name id)(hty:typeOf (.builtin id)=pure (.type "method_descriptor"))(hm:MtR X id r)(ho:PE X o to)(ha:PA X (e::es) t)
  (hbase:attributeBase o name X.env (eval o X.env)=eval o X.env:=by rfl)
  (hfew:((backTo cpos (starEach (e::es) X.env)).all (fun x=>!x.1)&&(backToKw cpos (keywordEach [] X.env)).all (fun x=>x.1.isSome)
   && decide ((e::es).length+([]:List Keyword).length+(if([]:List Keyword).isEmpty then 0 else 1) < 30))=true:=by rfl)
  (hline:(apos.endLine==cpos.line)=true:=by rfl)(hs:starEach (e::es) X.env=(false,eval e X.env)::starEach es X.env:=by rfl)(hplain:(backTo cpos (starEach es X.env)).any (·.1)=false:=by rfl) :
  PE X (.Call (.Attribute o name apos) (e::es) [] cpos) (tBM X.K T r to t):=by
 intro aA s σ H Q I h;refine wpAny_Call_method_late hbase hfew hline rfl (thn (ho aA s σ H _ I h) fun v s1 hq0=>?_);obtain⟨x,H1,I1,r1,ty,q1⟩:=hq0;obtain⟨h1,h2⟩:=zbfi I1 r1 ty;refine⟨T,id,pa,slot,hty,h1,h2,?_⟩;have hA:=ha cpos aA s1 σ H1 _ I1 q1;rw[hs] at hA ⊢;refine xiy (by show(false||(backTo cpos (starEach es X.env)).any (·.1))=false;rw[hplain]<;>rfl) (xjj ?_);exact thn hA fun us s2 ⟨vs,H2,I2,r2,q2⟩=>hm aA s2 σ H2 x vs v us Q I2 r1 r2 q2
/- xs.append(e),list.index on a module's tuple .. are MtR facts of 06m -/
end
noncomputable def MtM (X:Cx) (id:String) (r:V->List V->Hp->VK->Prop):Prop :=
 ∀(aA:List (Addr×Obj)) (s:Shared) (σ:St) (H:Hp) (x:V) (xs:List V) (v:Value) (us:List Value) (Q:VK),Inv X aA σ H s->RelV x v->Vals xs us->r x xs H Q ->
  wpAny (model X.prog X.w) X.A (call (.builtin id) (v::us)) (EP X aA σ Q) X.xe s
theorem Vals.one:∀{x:V} {us:List Value},Vals [x] us->∃u,us=[u]/\RelV x u
 | _,_,.cons r .nil=>⟨_,rfl,r⟩
section
variable {X:Cx}{aA:List (Addr×Obj)}{σ:St}{H:Hp}{s:Shared}{l b:Addr}{xs ys zs:List V}
theorem Inv.lset {its its':List Value}{n:Nat}{f:Array Value->Array Value}{t':Nat}(I:Inv X aA σ H s)(hH:H l=some (.lst xs))
  (e:s.heap.get? l=some { cls:=.type "list", data:=.seq its.toArray n })(hf:f its.toArray=its'.toArray)(hv:Vals ys its')(hz:ys.length<=sizeLine) :
  Inv X aA σ (upd H l (.lst ys)) {s with heap:=s.heap.update l (Obj.mapSeq f),toks:=t'}:=by
 have q:=PySem.IsL.update e f;rw[hf] at q;refine I.write (x:=l) (e:=l) (by rw[hH];exact trivial) (.inl rfl) (fun b' u hb hu=>(Heap.get?_update_other s.heap (Obj.mapSeq f) (xel hb)).trans hu) ⟨_,q⟩ ?_;exact⟨hz,its',_,hv,q⟩
theorem Inv.lnew {its:List Value}{t':Nat}(I:Inv X aA σ H s)(hv:Vals ys its)(hz:ys.length<=sizeLine) :
  Inv X aA σ (upd H s.heap.objs.size (.lst ys)) { s with heap:=s.heap.push { cls:=.type "list", data:=.seq its.toArray }, toks:=t' } :=
 I.laid (fun _ _ q=>xbo _ q) (xbg _) ⟨hz,its,0,hv,xce _ rfl⟩
theorem Inv.fresh (I:Inv X aA σ H s):H s.heap.objs.size=none:=I.hok.fresh (xbg _)
theorem Inv.lstM (I:Inv X aA σ H s)(hH:H l=some (.lst xs)):xs.length<=sizeLine/\∃(its:List Value) (n:Nat), Vals xs its/\xs.length=its.length/\s.heap.get? l=some { cls:=.type "list", data:=.seq its.toArray n }:=by
 obtain⟨z,its,n,r,e⟩:=I.hok l _ hH;exact⟨z,its,n,r,r.length,e⟩
theorem notLongL {n:Nat}(h:n<=sizeLine):Builtin.List.listTooLong n=false:=by
 unfold Builtin.List.listTooLong;exact xby (by lia)
end
section
variable {X:Cx}
noncomputable def rAppend:V->List V->Hp->VK->Prop:=fun x vs H Q=>∃l xs y,x=.ref l/\vs=[y]/\H l=some (.lst xs)/\xs.length < sizeLine/\Q .non (upd H l (.lst (xs++[y])))
theorem znq:MtM X "list.append" rAppend:=by
 intro aA s σ H x vs v us Q I rx rv h;obtain⟨l,xs,y,rfl,rfl,hH,hz,q⟩:=h;cases rx;obtain⟨u,rfl,ru⟩:=rv.one;obtain⟨z,its,n,r,hl,e⟩:=I.lstM hH;refine call_meets F.slot_list_append ⟨_,e,rfl⟩ F.entry_list_append (F.args_list_append_2 _ _) (PySem.list_append l its.toArray n u (by rw[xbw];lia)) ⟨e,?_⟩;refine⟨.non,_,I.lset (its':=its++[u]) hH e (by simp) (r.append (.cons ru .nil)) ?_,rfl,q⟩;rw[xbp,xfx];lia
noncomputable def rExtend:V->List V->Hp->VK->Prop:=fun x vs H Q=>∃l b xs zs,x=.ref l/\vs=[.ref b]/\H l=some (.lst xs)/\H b=some (.lst zs)/\xs.length+zs.length<=sizeLine/\Q .non (upd H l (.lst (xs++zs)))
theorem zti:MtM X "list.extend" rExtend:=by
 intro aA s σ H x vs v us Q I rx rv h;obtain⟨l,b,xs,zs,rfl,rfl,hH,hB,hz,q⟩:=h;cases rx;obtain⟨u,rfl,ru⟩:=rv.one;cases ru;obtain⟨z,its,n,r,hl,e⟩:=I.lstM hH;obtain⟨z2,its2,n2,r2,hl2,e2⟩:=I.lstM hB;have hsz:its.toArray.size+its2.toArray.size<=sizeLine:=by rw[xbw,xbw];lia
 have hlong:¬ (!its.toArray.isEmpty&&Builtin.List.listTooLong (its.toArray.size+its2.toArray.size))=true:=by
  rw[notLongL hsz,Bool.and_false];exact xeq
 refine call_meets F.slot_list_extend ⟨_,e,rfl⟩ F.entry_list_extend (F.args_list_extend_2 _ _)
  (AutoSeq1.list_extend_list_list_0 l its.toArray n b its2.toArray n2 hlong (by rw[xbw];lia) (by lia)) ⟨e,e2,?_⟩
 refine⟨.non,_,I.lset (its':=its++its2) hH e (by simp) (r.append r2) ?_,rfl,q⟩;rw[xbp];lia
noncomputable def rCat:R2:=fun x y H Q=>∃l b xs zs,x=.ref l/\y=.ref b/\H l=some (.lst xs)/\H b=some (.lst zs)/\xs.length+zs.length<=sizeLine/\∀p,H p=none->Q (.ref p) (upd H p (.lst (xs++zs)))
theorem zbgv:OpR X (binaryOp .Add) rCat:=by
 intro aA s σ H x y v u Q I rx ry h;obtain⟨l,b,xs,zs,rfl,rfl,hH,hB,hz,q⟩:=h;cases rx;cases ry;obtain⟨z,its,n,r,hl,e⟩:=I.lstM hH;obtain⟨z2,its2,n2,r2,hl2,e2⟩:=I.lstM hB;refine PySem.P.add_list e e2 ?_ (by rw[xbw,xbw];lia);have ea:its.toArray++its2.toArray=(its++its2).toArray:=by simp
 rw[ea];exact⟨.ref _,_,I.lnew (t':=s.toks) (r.append r2) (by rw[xbp];lia),rfl,q _ I.fresh⟩
end
section
variable {prog:Program}{w:World}{A:Around}{E:Value->Shared->Prop}{s:Shared}
end
section
variable {X:Cx}
end
section
variable {κ:Type}[DecidableEq κ]
noncomputable def valV (kvs:List (κ×V)) (k:κ):Option V:=(kvs.find? fun kv=>decide (kv.1=k)).map (·.2)
noncomputable def putK (kvs:List (κ×V)) (k:κ) (v:V):List (κ×V) :=
 if(kvs.any fun kv=>decide (kv.1=k))=true then kvs.map (fun kv=>if kv.1=k then(kv.1,v) else kv) else kvs++[(k,v)]
noncomputable def dropK (kvs:List (κ×V)) (k:κ):List (κ×V):=kvs.filter fun kv=>decide (kv.1≠k)
theorem zgu {p:κ×V}{r:List (κ×V)}{k:κ}(e:p.1=k):valV (p::r) k=some p.2:=by simp[valV,xeb,e]
theorem zgv {p:κ×V}{r:List (κ×V)}{k:κ}(e:¬ p.1=k):valV (p::r) k=valV r k:=by simp[valV,xeb,e]
theorem zpm (k:κ):∀kvs:List (κ×V),(kvs.any fun kv=>decide (kv.1=k))=(valV kvs k).isSome
 | []=>rfl
 | p::r=>by
  rw[xgr];by_cases e:p.1=k
  ·simp only[zgu e,xcc e,Bool.true_or,Option.isSome_some]
  ·rw[zgv e,xby e,Bool.false_or];exact zpm k r
theorem zga (kvs:List (κ×V))(k:κ)(v:V):(putK kvs k v).length<=kvs.length+1:=by
 unfold putK;split
 ·rw[xbd];lia
 ·rw[xbp,xbv,xgv];lia
theorem RelO.isSome_eq {o:Option V}{u:Option Value}(r:RelO o u):o.isSome=u.isSome:=by
 cases o with
 | none=>cases u with
  | none=>rfl
  | some _=>exact(show False from r).elim
 | some _=>cases u with
  | none=>exact(show False from r).elim
  | some _=>rfl
theorem RelO.getD {o:Option V}{u:Option Value}{d:V}{d':Value}(r:RelO o u)(rd:RelV d d'):RelV (o.getD d) (u.getD d'):=by
 cases o with
 | none=>cases u with
  | none=>exact rd
  | some _=>exact(show False from r).elim
 | some _=>cases u with
  | none=>exact(show False from r).elim
  | some _=>exact r
theorem KV.val {kvs:List (κ×V)}{vs:List (κ×Value)}(r:KV kvs vs)(k:κ):RelO (valV kvs k) (valueAt vs k):=by
 unfold KV at r
 induction r with
 | nil=>exact True.intro
 | @cons p q ps qs h t ih =>
  obtain⟨h1,h2⟩:=h;by_cases e:p.1=k
  ·have e':q.1=k:=h1.symm.trans e;have b:valueAt (q::qs) k=some q.2:=by simp[valueAt,xeb,e']
   rw[zgu e,b];exact h2
  ·have e':¬ q.1=k:=fun z=>e (h1.trans z)
   have b:valueAt (q::qs) k=valueAt qs k:=by simp[valueAt,xeb,e']
   rw[zgv e,b];exact ih
theorem KV.any {kvs:List (κ×V)}{vs:List (κ×Value)}(r:KV kvs vs)(k:κ):(kvs.any fun kv=>decide (kv.1=k))=vs.any fun kv=>decide (kv.1=k):=by
 unfold KV at r
 induction r with
 | nil=>rfl
 | cons h t ih=>rw[xgr,xgr,ih,h.1]
theorem KV.repl {kvs:List (κ×V)}{vs:List (κ×Value)}(r:KV kvs vs)(k:κ){y:V}{u:Value}(ry:RelV y u) :
  KV (kvs.map fun kv=>if kv.1=k then(kv.1,y) else kv) (vs.map fun kv=>if kv.1=k then(kv.1,u) else kv):=by
 unfold KV at r ⊢
 induction r with
 | nil=>exact .nil
 | @cons p q ps qs h t ih =>
  rw[xbq,xbq];refine .cons ?_ ih;obtain⟨h1,h2⟩:=h;by_cases e:p.1=k
  ·rw[if_pos e,if_pos (h1.symm.trans e)];exact⟨h1,ry⟩
  ·rw[if_neg e,if_neg (fun z=>e (h1.trans z))];exact⟨h1,h2⟩
theorem KV.put {kvs:List (κ×V)}{vs:List (κ×Value)}(r:KV kvs vs)(k:κ){y:V}{u:Value}(ry:RelV y u):KV (putK kvs k y) (stored vs k u):=by
 unfold putK stored;rw[r.any k];by_cases e:(vs.any fun kv=>decide (kv.1=k))=true
 ·rw[if_pos e,if_pos e];exact r.repl k ry
 ·rw[if_neg e,if_neg e];exact Paired.snoc r ⟨rfl,ry⟩
theorem KV.drop {kvs:List (κ×V)}{vs:List (κ×Value)}(r:KV kvs vs)(k:κ):KV (dropK kvs k) (without vs k):=by
 unfold KV at r ⊢;unfold dropK without
 induction r with
 | nil=>exact .nil
 | @cons p q ps qs h t ih =>
  obtain⟨h1,h2⟩:=h;rw[xjb,xjb];by_cases e:p.1=k
  ·have a:¬ decide (p.1≠k)=true:=by simp[e]
   have b:¬ decide (q.1≠k)=true:=by simp[h1.symm.trans e]
   rw[if_neg a,if_neg b];exact ih
  ·have e':¬ q.1=k:=fun z=>e (h1.trans z)
   have a:decide (p.1≠k)=true:=by simp[e]
   have b:decide (q.1≠k)=true:=by simp[e']
   rw[if_pos a,if_pos b];exact .cons ⟨h1,h2⟩ ih
theorem KV.keys {kvs:List (κ×V)}{vs:List (κ×Value)}(r:KV kvs vs):kvs.map (·.1)=vs.map (·.1):=by
 unfold KV at r
 induction r with
 | nil=>rfl
 | cons h t ih=>rw[xbq,xbq,ih,h.1]
theorem KV.length {kvs:List (κ×V)}{vs:List (κ×Value)}(r:KV kvs vs):kvs.length=vs.length:=xgq r
theorem zyi (kvs:List (κ×V))(k:κ):(dropK kvs k).length<=kvs.length:=xfy _ _
end
theorem zxo {P:Program}{w:World}{k:Key}{u:Value}(r:RelV (kV k) u):(mixKind P w).is k u=true:=by
 cases k with
 | inl i=>obtain⟨t,e⟩:=(show ∃t,u=Value.int i t from r);subst e;exact zpd P w i t
 | inr x=>obtain⟨t,e⟩:=(show ∃t,u=Value.str x t from r);subst e;exact zpc P w x t
theorem znu {P:Program}{w:World}:∀{ks:List Key} {us:List Value},Vals (ks.map kV) us->ItemsAre (mixKind P w) ks us
 | [],_,r=>by rw[xki] at r;cases r;exact .nil
 | k::ks,_,r=>by
  rw[xbq] at r;cases r with
  | cons h t=>exact .cons (zxo h) (znu t)
noncomputable abbrev KT (H:Hp):List (List Key×V)->List (List Key×Addr×Value)->Prop:=Paired fun p q=>p.1=q.1/\H q.2.1=some (.tup (p.1.map kV))/\RelV p.2 q.2.2
theorem KT.val {H:Hp}{kvs:List (List Key×V)}{xs:List (List Key×Addr×Value)}(r:KT H kvs xs)(k:List Key):RelO (valV kvs k) ((atKey xs k).map (·.2)):=by
 induction r with
 | nil=>exact True.intro
 | @cons p q ps qs h t ih =>
  obtain⟨h1,_,h2⟩:=h;by_cases e:p.1=k
  ·have e':q.1=k:=h1.symm.trans e;have b:atKey (q::qs) k=some q.2:=by simp[atKey,xeb,e']
   rw[zgu e,b];exact h2
  ·have e':¬ q.1=k:=fun z=>e (h1.trans z)
   have b:atKey (q::qs) k=atKey qs k:=by simp[atKey,xeb,e']
   rw[zgv e,b];exact ih
theorem KT.repl {H:Hp}{kvs:List (List Key×V)}{xs:List (List Key×Addr×Value)}(r:KT H kvs xs)(k:List Key){y:V}{u:Value}(ry:RelV y u) :
  KT H (kvs.map fun kv=>if kv.1=k then(kv.1,y) else kv) (xs.map (putAt k u)):=by
 induction r with
 | nil=>exact .nil
 | @cons p q ps qs h t ih =>
  rw[xbq,xbq];refine .cons ?_ ih;obtain⟨h1,h2,h3⟩:=h;unfold putAt;by_cases e:p.1=k
  ·rw[if_pos e,if_pos (h1.symm.trans e)];exact⟨h1,h2,ry⟩
  ·rw[if_neg e,if_neg (fun z=>e (h1.trans z))];exact⟨h1,h2,h3⟩
theorem KT.put {H:Hp}{kvs:List (List Key×V)}{xs:List (List Key×Addr×Value)}(r:KT H kvs xs)(k:List Key){b:Addr}{y:V}{u:Value}(hb:H b=some (.tup (k.map kV)))(ry:RelV y u) :
  KT H (putK kvs k y) (storedH xs k b u):=by
 have e:(kvs.any fun kv=>decide (kv.1=k))=(atKey xs k).isSome:=by
  rw[zpm,(r.val k).isSome_eq,Option.isSome_map]
 unfold putK storedH;rw[e];by_cases q:(atKey xs k).isSome=true
 ·rw[if_pos q,if_pos q];exact r.repl k ry
 ·rw[if_neg q,if_neg q];exact Paired.snoc r ⟨rfl,hb,ry⟩
theorem KT.keeps {H H':Hp}{kvs:List (List Key×V)}{xs:List (List Key×Addr×Value)}(r:KT H kvs xs)(ht:∀b ys,H b=some (.tup ys)->H' b=some (.tup ys)):KT H' kvs xs :=
 Paired.mapP r fun _ _ z=>⟨z.1,ht _ _ z.2.1,z.2.2⟩
section
variable {P:Program}{w:World}{H:Hp}{h:Heap}{a:Addr}
theorem zbjr {u:HO}(ok:HOk P w H h)(e:Rd H a u):ObjOk P w H h a u:=e.ok ok
theorem zyj {kvs:List (Key×V)}(ok:HOk P w H h)(e:Rd H a (.dK kvs)):kvs.length<=sizeLine/\(a==sysModules)=false/\∃vs,KV kvs vs/\h.DictOf (mixKind P w) a vs :=
 show ObjOk P w H h a (.dK kvs) from zbjr ok e
theorem zbic {kvs:List (Key×V)}(ok:HOk P w H h)(e:H a=some (.dK kvs)):kvs.length<=sizeLine/\(a==sysModules)=false/\∃vs,KV kvs vs/\h.DictOf (mixKind P w) a vs:=zyj ok (.inl e)
theorem zpf {ks:List Key}(ok:HOk P w H h)(e:H a=some (.tup (ks.map kV))):(tupleKind (mixKind P w)).is h ks a:=by
 obtain⟨_,its,r,o,h1,h2,n,h3⟩:=(show ObjOk P w H h a (.tup (ks.map kV)) from ok a _ e)
 exact⟨o,its.toArray,n,h1,h2,h3,by simpa using znu r⟩
theorem zzs {kvs:List (List Key×V)}(ok:HOk P w H h)(e:Rd H a (.dT kvs)):kvs.length<=sizeLine/\(a==sysModules)=false /\
  ∃xs,KT H kvs xs/\h.DictOfH (tupleKind (mixKind P w)) a xs:=by
 obtain⟨z,y,xs,r,o,es,ep,h1,h2,h3,h4,h5⟩:=(show ObjOk P w H h a (.dT kvs) from zbjr ok e)
 refine⟨z,y,xs,r,o,es,ep,h1,h2,h3,h4,fun x hx=>?_,h5⟩;have all:∀{l:List (List Key×V)} {m:List (List Key×Addr×Value)},KT H l m->∀x∈m,(tupleKind (mixKind P w)).is h x.1 x.2.1:=by
  intro l m q
  induction q with
  | nil=>intro x hx;exact nomatch hx
  | @cons p q ps qs hq t ih =>
   intro x hx;rcases xbr.mp hx with e | hx
   ·subst e;exact zpf ok (by rw[← hq.1];exact hq.2.1)
   ·exact ih x hx
 exact all r x hx
theorem zbkd {kvs:List (List Key×V)}(ok:HOk P w H h)(e:H a=some (.dT kvs)):kvs.length<=sizeLine/\(a==sysModules)=false /\
 ∃xs,KT H kvs xs/\h.DictOfH (tupleKind (mixKind P w)) a xs:=zzs ok (.inl e)
end
noncomputable def DGet (H:Hp) (a:Addr) (y:V) (r:Option V):Prop :=
 (∃kvs k,Rd H a (.dK kvs)/\y=kV k/\r=valV kvs k)\/∃kvs k b,Rd H a (.dT kvs)/\y=.ref b/\H b=some (.tup (k.map kV))/\r=valV kvs k
noncomputable def DPut (H:Hp) (a:Addr) (y v:V) (H':Hp):Prop :=
 (∃kvs k,H a=some (.dK kvs)/\y=kV k/\kvs.length < sizeLine/\H'=upd H a (.dK (putK kvs k v))) \/
 ∃kvs k b,H a=some (.dT kvs)/\y=.ref b/\H b=some (.tup (k.map kV))/\kvs.length < sizeLine/\H'=upd H a (.dT (putK kvs k v))
theorem DPut.t {H:Hp}{a b:Addr}{kvs:List (List Key×V)}{k:List Key}{v:V}(e:H a=some (.dT kvs))(eb:H b=some (.tup (k.map kV)))(hl:kvs.length < sizeLine) :
 DPut H a (.ref b) v (upd H a (.dT (putK kvs k v))):=.inr ⟨kvs,k,b,e,rfl,eb,hl,rfl⟩
section
variable {X:Cx}{aA:List (Addr×Obj)}{σ:St}{H:Hp}{s:Shared}{a:Addr}{y v:V}{u r:Value}{o:Option V}{A:Around}{E:Value->Shared->Prop}
theorem Inv.big (I:Inv X aA σ H s):sysModules < s.heap.objs.size:=by
 have h:mainGlobals < s.heap.objs.size:=(I.mod.glob.keeps I.bk).lt;exact xhj (by decide) h
theorem zuf {Q:Value->Shared->Prop}(hu:A.units+1 < cLine)(I:Inv X aA σ H s)(g:DGet H a y (some v))(ry:RelV y u)(h:∀w' s',Inv X aA σ H s'->RelV v w'->Q w' s') :
  wpAny (model X.prog X.w) A (getItem (.ref a) u) Q E s:=by
 rcases g with⟨kvs,k,e,ey,l⟩ | ⟨kvs,k,b,e,ey,eb,l⟩
 ·subst ey;obtain⟨z,hd,vs,rel,dd⟩:=zyj I.hok e;obtain⟨w',hw,rw'⟩:=RelO.some_of (v:=v) (o:=valueAt vs k) (by rw[l];exact rel.val k);exact wpAny_getItem_of (zxo ry) dd.mapOf hw (h w' _ (I.tok _) rw')
 ·subst ey;cases(show u=Value.ref b from ry);obtain⟨z,hd,xs,rel,dd⟩:=zzs I.hok e;obtain⟨w',hw,rw'⟩:=RelO.some_of (v:=v) (o:=(atKey xs k).map (·.2)) (by rw[l];exact rel.val k);obtain⟨p,hp,hp2⟩:=xcs.mp hw;refine wpAny_getItem_heap (xhb hu) (zpf I.hok eb) dd hp ?_;rw[hp2];exact h w' _ (I.tok _) rw'
theorem d_in {Q:Value->Shared->Prop}(hu:A.units+1 < cLine)(I:Inv X aA σ H s)(g:DGet H a y o)(ry:RelV y u)(h:∀s',Inv X aA σ H s'->Q (.bool o.isSome) s') :
  wpAny (model X.prog X.w) A (compareOp .In u (.ref a)) Q E s:=by
 rcases g with⟨kvs,k,e,ey,l⟩ | ⟨kvs,k,b,e,ey,eb,l⟩
 ·subst ey;obtain⟨z,hd,vs,rel,dd⟩:=zyj I.hok e;refine wpAny_in_of (zxo ry) hd dd.mapOf ?_;rw[← (rel.val k).isSome_eq,← l];exact h _ (I.tok _)
 ·subst ey;cases(show u=Value.ref b from ry);obtain⟨z,hd,xs,rel,dd⟩:=zzs I.hok e;refine wpAny_in_heap (xhb hu) (zpf I.hok eb) hd dd ?_;have q:=(rel.val k).isSome_eq;rw[Option.isSome_map] at q;rw[← q,← l];exact h _ (I.tok _)
theorem zld {h':Heap}{t':Nat}{ob:HO}(I:Inv X aA σ H s)(mu:Mut (H a))(hs:Heap.SameBut a s.heap h')(he:∃q,h'.get? a=some q)(new:ObjOk X.prog X.w (upd H a ob) h' a ob) :
  Inv X aA σ (upd H a ob) {s with heap:=h',toks:=t'} :=
 I.write (x:=a) (e:=a) mu (.inl rfl) (fun b q hb z=>(hs.2 b hb).trans z) he new
theorem zyk {P:Program}{w:World}{H':Hp}{h':Heap}{kvs:List (Key×V)}{vs:List (Key×Value)}(z:kvs.length<=sizeLine)(hd:(a==sysModules)=false)(rel:KV kvs vs)(dd:h'.DictOf (mixKind P w) a vs) :
 ObjOk P w H' h' a (.dK kvs):=⟨z,hd,vs,rel,dd⟩
theorem zue {H':Hp}{Q:Unit->Shared->Prop}(hu:A.units+1 < cLine)(I:Inv X aA σ H s)(g:DPut H a y v H')(ry:RelV y u)(rv:RelV v r)(h:∀s',Inv X aA σ H' s'->Q () s') :
  wpAny (model X.prog X.w) A (setItem (.ref a) u r) Q E s:=by
 rcases g with⟨kvs,k,e,ey,l,eH⟩ | ⟨kvs,k,b,e,ey,eb,l,eH⟩
 ·subst ey eH;obtain⟨z,hd,vs,rel,dd⟩:=zbic I.hok e;have hz:vs.length<=sizeLine:=by rw[← rel.length];exact z
  have hl:(putK kvs k v).length<=sizeLine:=by have:=zga kvs k v;lia
  refine wpAny_setItem_pairs (hsz:=hz) (zxo ry) dd fun h' dd' hs=>h _ ?_
  have he:∃q,h'.get? a=some q:=let ⟨q,_,_,hq,_⟩:=dd';⟨q,hq⟩
  exact zld I (by rw[e];exact True.intro) hs he (zyk hl hd (rel.put k rv) dd')
 ·subst ey eH;cases(show u=Value.ref b from ry);obtain⟨z,hd,xs,rel,dd⟩:=zbkd I.hok e;have hz:xs.length<=sizeLine:=by rw[← xgq rel];exact z
  have hl:(putK kvs k v).length<=sizeLine:=by have:=zga kvs k v;lia
  refine wpAny_setItem_heap (hsz:=hz) (xhb hu) (zpf I.hok eb) dd fun h' dd' hs=>h _ ?_
  obtain⟨q,es,ep,hq,h2,h3,h4,_,h5⟩:=dd';refine zld I (by rw[e];exact True.intro) hs ⟨q,hq⟩ ⟨hl,hd,_,(rel.put k eb rv).keeps fun c ys ec=>?_,q,es,ep,hq,h2,h3,h4,h5⟩;rw[zv (zbjx ec e (fun z=>nomatch z))];exact ec
end
section
variable {X:Cx}{aA:List (Addr×Obj)}{σ:St}{H:Hp}{s:Shared}{a:Addr}{kvs:List (Key×V)}{k:Key}{u:Value}{A:Around}{E:Value->Shared->Prop}
theorem zblm {v:V}{more:List Value}{Q:Value->Shared->Prop}(I:Inv X aA σ H s)(e:H a=some (.dK kvs))(ry:RelV (kV k) u)(l:valV kvs k=some v)(hm:more=[]\/∃x,more=[x])
  (h:∀ w' s', Inv X aA σ (upd H a (.dK (dropK kvs k))) s'->RelV v w'->Q w' s'):wpAny (model X.prog X.w) A (call (.builtin "dict.pop") (.ref a::u::more)) Q E s:=by
 obtain⟨z,hd,vs,rel,dd⟩:=zbic I.hok e;obtain⟨w',hw,rw'⟩:=RelO.some_of (v:=v) (o:=valueAt vs k) (by rw[← l];exact rel.val k);have hp:(keyPart u).isSome=true:=by
  cases k with
  | inl i=>obtain⟨t,q⟩:=(show ∃t,u=Value.int i t from ry);subst q;rfl
  | inr x=>obtain⟨t,q⟩:=(show ∃t,u=Value.str x t from ry);subst q;rfl
 have ha:argsOk "dict.pop" ⟨.ref a::u::more,[]⟩:=by
  rcases hm with q | ⟨x,q⟩
  ·subst q;exact F.args_dict_pop_2 _ _
  ·subst q;exact F.args_dict_pop_3 _ _ _
 refine xjq xhk dd.typeIs F.entry_dict_pop ha (meets_dict_pop_there (mixKind X.prog X.w) a (zxo ry) more hm hp)
  ⟨vs,w',dd,by rw[← rel.length];exact z,hw,fun h' dd' hs=>h w' _ ?_ rw'⟩
 have he:∃q,h'.get? a=some q:=let ⟨q,_,_,hq,_⟩:=dd';⟨q,hq⟩
 exact zld I (by rw[e];exact True.intro) hs he (zyk (xbb (zyi kvs k) z) hd (rel.drop k) dd')
end
noncomputable def NoSl (i:Expr):Prop:=∀ov iv,subscripted i false ov iv=operate [ov,iv] (getItem ov iv)
theorem zbaj {prog:Program}{w:World}{A:Around}{E:Value->Shared->Prop}{s:Shared}{env:Env}{value slice:Expr}{pos:Pos}{T id:String}{Q:Value->Shared->Prop}
  (hl:typeLookup (.type T) "__getitem__"=pure (some (.builtin id)))(hs:NoSl slice)
  (h:wpAny (model prog w) A (eval value env) (fun o s₁=>wpAny (model prog w) A (eval slice env) (fun i s₂=>s₂.TypeIs o T/\wpAny (model prog w) A (getItem o i) Q E s₂) E s₁) E s) :
  wpAny (model prog w) A (eval (.Subscript value slice pos) env) Q E s:=by
 refine Subscript_ (xdz h (fun o s₁ h₁=>xdz h₁ (fun i s₂ h₂=>?_) fun _ _ x=>x) fun _ _ x=>x);obtain⟨hT,h₂⟩:=h₂;unfold subscriptTail;refine xba ?_;rw[getitemInPython_of_ne hT.not_modules];refine xba (wpAny_specialOf hT hl ?_);have fin:wpAny (model prog w) A (subscripted slice false o i) (fun r s₃=>wpAny (model prog w) A (letTemporaryGo value o r >>= fun _=>pure r) Q E s₃) E s₂:=by
  rw[hs o i];exact wpAny_operating (xdz h₂ (fun r s₃ h₃=>xba (wpAny_letTemporaryGo (xbl h₃))) fun _ _ x=>x)
 first
  | exact xbl (xba fin)
  | exact xba (xbl (xba fin))
  | exact xba fin
theorem zpi {X:Cx}{aA:List (Addr×Obj)}{σ:St}{H:Hp}{s:Shared}{a:Addr}{y:V}{o:Option V}(I:Inv X aA σ H s)(g:DGet H a y o):s.TypeIs (.ref a) "dict":=by
 rcases g with⟨kvs,k,e,_,_⟩ | ⟨kvs,k,b,e,_,_,_⟩
 ·obtain⟨_,_,vs,_,dd⟩:=zyj I.hok e;exact dd.typeIs
 ·obtain⟨_,_,xs,_,dd⟩:=zzs I.hok e;exact dd.typeIs
noncomputable def tDGet (td ty:TE):TE:=fun σ H Q=>td σ H fun x H1=>ty σ H1 fun y H2=>∃a v,x=.ref a/\DGet H2 a y (some v)/\Q v H2
noncomputable def tDIn (ty td:TE):TE:=fun σ H Q=>ty σ H fun y H1=>td σ H1 fun x H2=>∃a o,x=.ref a/\DGet H2 a y o/\Q (.bl o.isSome) H2
noncomputable def sDPut (td ty tv:TE):TS:=fun D σ H=>tv σ H fun v H1=>td σ H1 fun x H2=>ty σ H2 fun y H3=>∃a H4,x=.ref a/\DPut H3 a y v H4/\D.nx σ H4
section
variable {X:Cx}{o i e value:Expr}{pos pos' tpos:Pos}{td ty tv:TE}
theorem zbbp (hu:X.A.units+1 < cLine)(ho:PE X o td)(hi:PE X i ty)(hs:NoSl i):PE X (.Subscript o i pos) (tDGet td ty):=by
 intro aA s σ H Q I h;refine zbaj F.slot_dict_getitem.lookup hs (thn (ho aA s σ H _ I h) fun u s1 ⟨x,H1,I1,rx,q1⟩=>thn (hi aA s1 σ H1 _ I1 q1) fun iv s2 hq0=>?_);obtain⟨y,H2,I2,ry,a,v,ex,g,q2⟩:=hq0;subst ex;obtain rfl:u=Value.ref a:=rx;exact⟨zpi I2 g,zuf hu I2 g ry fun w' s3 I3 rw'=>⟨v,H2,I3,rw',q2⟩⟩
theorem zbgo (hu:X.A.units+1 < cLine)(hi:PE X i ty)(ho:PE X o td):PC X .In i o (tDIn ty td):=by
 intro aA s σ H Q I h;refine thn (hi aA s σ H _ I h) fun iv s1 ⟨y,H1,I1,ry,q1⟩=>thn (ho aA s1 σ H1 _ I1 q1) fun u s2 hq0=>?_
 obtain⟨x,H2,I2,rx,a,ov,ex,g,q2⟩:=hq0;subst ex;obtain rfl:u=Value.ref a:=rx;exact d_in hu I2 g ry fun s3 I3=>⟨.bl ov.isSome,H2,I3,rfl,q2⟩
theorem zbbb (hu:X.A.units+1 < cLine)(ho:PE X o td)(hi:PE X i ty)(hv:PE X value tv)(hs:swapsWith value (some (.Subscript o i pos')) pos.line X.env=pure false) :
  PS X (.Assign [.Subscript o i pos'] value pos) (sDPut td ty tv):=by
 intro aA s σ H D I h;refine wpAny_Assign_Subscript (thn (hv aA s σ H _ I h) fun r s1 ⟨v,H1,I1,rv,q1⟩=>thn (ho aA s1 σ H1 _ I1 q1) fun u s2 ⟨x,H2,I2,rx,q2⟩=>thn (hi aA s2 σ H2 _ I2 q2) fun iv s3 hq0=>?_) hs;obtain⟨y,H3,I3,ry,a,H4,ex,g,q3⟩:=hq0;subst ex;obtain rfl:u=Value.ref a:=rx;exact zue hu I3 g ry rv fun s4 I4=>⟨σ,H4,I4,q3⟩
end
theorem zyl {P:Program}{w:World}{H:Hp}(h:Heap)(hb:sysModules < h.objs.size):ObjOk P w H (h.push { cls:=.type "dict", data:=.dict #[] }) h.objs.size (.dK []) :=
 ⟨xef _,xfp.mpr (xel (xca hb)),[],.nil,Heap.DictOf.new h⟩
theorem zyc {P:Program}{w:World}{H:Hp}(h:Heap)(hb:sysModules < h.objs.size):ObjOk P w H (h.push { cls:=.type "dict", data:=.dict #[] }) h.objs.size (.dT []) :=
 ⟨xef _,xfp.mpr (xel (xca hb)),[],.nil,_,#[],0,xce _ rfl,⟨rfl,rfl,rfl⟩,rfl,rfl,xfq⟩
noncomputable def tDNewK:TE:=fun _ H Q=>∀p,H p=none->Q (.ref p) (upd H p (.dK []))
noncomputable def tDNewT:TE:=fun _ H Q=>∀p,H p=none->Q (.ref p) (upd H p (.dT []))
section
variable {X:Cx}{pos:Pos}
theorem zwx:PE X (.Dict [] [] pos) tDNewK:=fun aA s σ H Q I h =>
 wpAny_Dict_empty ⟨.ref s.heap.objs.size,_,I.laid (a:=s.heap.objs.size) (o:=.dK []) (t':=s.toks) (fun _ _ q=>xbo _ q) (xbg _) (zyl s.heap I.big),rfl,h _ (I.hok.fresh (xbg _))⟩
theorem zww:PE X (.Dict [] [] pos) tDNewT:=fun aA s σ H Q I h =>
 wpAny_Dict_empty ⟨.ref s.heap.objs.size,_,I.laid (a:=s.heap.objs.size) (o:=.dT []) (t':=s.toks) (fun _ _ q=>xbo _ q) (xbg _) (zyc s.heap I.big),rfl,h _ (I.hok.fresh (xbg _))⟩
end
structure M1 (X:Cx) (o:Expr) (m:Str) (apos:Pos) (e:Expr) (cpos:Pos):Prop where
 base:attributeBase o m X.env (eval o X.env)=eval o X.env
 few:((backTo cpos (starEach [e] X.env)).all (fun x=>!x.1)&&(backToKw cpos (keywordEach [] X.env)).all (fun x=>x.1.isSome)
  && decide (([e]:List Expr).length+([]:List Keyword).length+(if([]:List Keyword).isEmpty then 0 else 1) < 30))=true
 line:(apos.endLine==cpos.line)=true
 trees:backTo cpos (starEach [e] X.env)=[(false,eval e X.env)]
structure M2 (X:Cx) (o:Expr) (m:Str) (apos:Pos) (e f:Expr) (cpos:Pos):Prop where
 base:attributeBase o m X.env (eval o X.env)=eval o X.env
 few:((backTo cpos (starEach [e,f] X.env)).all (fun x=>!x.1)&&(backToKw cpos (keywordEach [] X.env)).all (fun x=>x.1.isSome)
  && decide (([e,f]:List Expr).length+([]:List Keyword).length+(if([]:List Keyword).isEmpty then 0 else 1) < 30))=true
 line:(apos.endLine==cpos.line)=true
 trees:backTo cpos (starEach [e,f] X.env)=[(false,eval e X.env),(false,eval f X.env)]
noncomputable def IsD (H:Hp) (a:Addr):Prop:=(∃kvs,Rd H a (.dK kvs))\/∃kvs,Rd H a (.dT kvs)
theorem zbdb {X:Cx}{aA:List (Addr×Obj)}{σ:St}{H:Hp}{s:Shared}{a:Addr}(I:Inv X aA σ H s)(d:IsD H a) :
  s.TypeIs (.ref a) "dict"/\(∀ b, Value.ref a=.ref b->∃ ob, s.heap.get? b=some ob/\ob.dict=none)/\(a==sysModules)=false:=by
 rcases d with⟨kvs,e⟩ | ⟨kvs,e⟩
 ·obtain⟨_,hd,vs,_,dd⟩:=zyj I.hok e;refine⟨dd.typeIs,fun b q=>?_,hd⟩;cases q;obtain⟨ob,_,_,h1,h2,_⟩:=dd;exact⟨ob,h1,h2.2.1⟩
 ·obtain⟨_,hd,xs,_,dd⟩:=zzs I.hok e;refine⟨dd.typeIs,fun b q=>?_,hd⟩;cases q;obtain⟨ob,_,_,h1,h2,_⟩:=dd;exact⟨ob,h1,h2.2.1⟩
section
variable {X:Cx}{aA:List (Addr×Obj)}{σ:St}{H:Hp}{s:Shared}{a:Addr}{y d:V}{u r:Value}{o:Option V}{A:Around}{E:Value->Shared->Prop}
theorem zbik {Q:Value->Shared->Prop}(hu:A.units+1 < cLine)(I:Inv X aA σ H s)(g:DGet H a y o)(ry:RelV y u)(rd:RelV d r)(h:∀w' s',Inv X aA σ H s'->RelV (o.getD d) w'->Q w' s') :
  wpAny (model X.prog X.w) A (call (.builtin "dict.get") [.ref a, u, r]) Q E s:=by
 rcases g with⟨kvs,k,e,ey,l⟩ | ⟨kvs,k,b,e,ey,eb,l⟩
 ·subst ey;obtain⟨z,hd,vs,rel,dd⟩:=zyj I.hok e;refine xjq xjg dd.typeIs F.entry_dict_get (F.args_dict_get_3 _ _ _) (meets_dict_get_default (mixKind X.prog X.w) a (zxo ry) hd r) ⟨_,dd.mapOf,h _ _ (I.tok _) ?_⟩;rw[l];exact(rel.val k).getD rd
 ·subst ey;cases(show u=Value.ref b from ry);obtain⟨z,hd,xs,rel,dd⟩:=zzs I.hok e;refine xjq xjg dd.typeIs F.entry_dict_get (F.args_dict_get_3 _ _ _) (meetsH_dict_get_default (tupleKind (mixKind X.prog X.w)) a b hd r) ⟨xhb hu,k,xs,zpf I.hok eb,dd,h _ _ (I.tok _) ?_⟩;rw[l];exact(rel.val k).getD rd
end
noncomputable def tDGet2 (td ty tx:TE):TE:=fun σ H Q=>td σ H fun x H1=>∃a,x=.ref a/\IsD H1 a/\ty σ H1 fun y H2=>tx σ H2 fun z H3=>∃o,DGet H3 a y o/\Q (o.getD z) H3
section
variable {X:Cx}{o e f:Expr}{apos cpos:Pos}{td ty tx:TE}
theorem zwy (hu:X.A.units + 1 < cLine)(ho:PE X o td)(he:PE X e ty)(hf:PE X f tx)(m:M2 X o "get" apos e f cpos):PE X (.Call (.Attribute o "get" apos) [e, f] [] cpos) (tDGet2 td ty tx):=by
 intro aA s σ H Q I h;refine wpAny_Call_method m.base m.few m.line xgm xjg F.type_dict_get (thn (ho aA s σ H _ I h) fun u s1 hq0=>?_);obtain⟨x,H1,I1,rx,a,ex,d,q1⟩:=hq0;subst ex;obtain rfl:u=Value.ref a:=rx;obtain⟨t1,t2,_⟩:=zbdb I1 d;refine⟨t1,t2,?_⟩;rw[m.trees]
 refine xiy rfl (xjj (xgu (thn (he aA s1 σ H1 _ I1 q1) fun iv s2 ⟨y,H2,I2,ry,q2⟩ =>
  xgu (thn (hf aA s2 σ H2 _ I2 q2) fun fv s3 ⟨z,H3,I3,rz,ov,g,q3⟩=>xir ?_))))
 exact zbik hu I3 g ry rz fun w' s4 I4 rw'=>⟨_,H3,I4,rw',q3⟩
end
section
variable {X:Cx}{aA:List (Addr×Obj)}{σ:St}{H:Hp}{s:Shared}{a:Addr}{kvs:List (Key×V)}{A:Around}{E:Value->Shared->Prop}
end
section
variable {X:Cx}{aA:List (Addr×Obj)}{σ:St}{H:Hp}{s:Shared}{a:Addr}{y:V}{u:Value}{A:Around}{E:Value->Shared->Prop}
end
end L2
namespace Att
open PySem PySem.W PySem.Calls PyProof.Rows
theorem zii {P:Params}{h:Heap}:∀(ns:List Int) (vs:List Value),WellAll P h vs (ns.map WData.int)->IntsAre vs ns:=by
 intro ns
 induction ns with
 | nil =>
  intro vs w;rw[xki] at w;cases w;exact .nil
 | cons n ns ih =>
  intro vs w;rw[xbq] at w;cases w with
  | cons a b =>
   cases a;exact .cons _ _ (ih _ b)
theorem zsp {l:OpenLaw}{n:Nat}(hn:l.most=some n){P:Params}{h:Heap}{args:List WData}{vals:List Value}
  (hpre:l.row.toRowW.claim.pre args=true)(hwl:WellAll P h vals args) :
  ∃ a vs ns, vals=[Value.ref a]/\args=[WData.list (ns.map WData.int)]/\h.get? a=some { cls:=.type "list", data:=.seq vs.toArray }/\IntsAre vs ns/\ns.length<=n:=by
 have hsh:WShape.hasAll [] args [.list .int]=true:=(pre_splitW hpre).1;have hc:l.pre.holds [] {args:=args}=true:=(pre_splitW hpre).2;obtain⟨d,r,rfl,h1,h2⟩:=hasAllW_cons hsh;obtain rfl:=hasAllW_nil h2;obtain⟨xs,rfl,h3⟩:=hasW_list h1;obtain⟨ns,rfl⟩:=items_int h3;have hlen:ns.length<=n:=by
  unfold OpenLaw.pre at hc;have h4:(WTm.not (.lt (.lit (.int (n:Int))) (.len (.arg 0)))).holds [] {args:=[.list (ns.map .int)]}=true:=by
   have h4:=(holds_andW hc).1;rw[hn] at h4;exact h4
  have h5:=condW_of h4 (w_not (w_lt w_lit (w_len_list (w_arg rfl))));rw[xbd] at h5;refine xbz fun q=>?_
  have q':(n:Int) < ((ns.length:Nat):Int):=by lia
  first
   | (rw[xcc q'] at h5;exact absurd h5 (by decide))
   | (simp at h5;lia)
 cases hwl with
 | cons w1 w2 =>
  cases w2;cases w1 with
  | list ho hall=>exact⟨_,_,ns,rfl,rfl,ho,zii ns _ hall,hlen⟩
theorem zsw (l:OpenLaw)(args:List WData):l.row.toRowW.claim.post args (.bool true) args=true :=
 postW_of (r:=l.row.toRowW) (X:=(true==true))
  (show WShape.has [] (.bool true) .bool=true by first | rfl | decide | simp[WShape.has,WShape.arms,WShape.armsAll])
  (show(WTm.eq .res (.lit (.bool true))).value [] {args:=args,res:=some (.bool true),after:=args}=some (.bool (true==true)) from w_eq_bool (w_res rfl) w_lit) rfl
theorem attach_call {l:OpenLaw}{n:Nat}{q:Program}{loose:List Str}{XP:(Str->Option Value)->Heap->Prop}{YP:World->Heap->Prop}{d:DefRec}
  (hn:l.most=some n)(hdf:d.params.defaults=[])
  (call:∀(w:World) (s₀ s₁:Shared) (mg mb:Str->Option Value) (fa:Addr) (o:Obj) (pm cd doc:Value) (a:Addr) (vs:List Value) (ns:List Int),
   Ground q loose [] XP w s₀ mg mb s₁.heap->YP w s₁.heap ->
   s₁.heap.get? fa=some o->o.data=.func (docDef d.name d.params d.body d.scope pm cd doc)->s₁.heap.CodeRec cd d.name->mg d.name=some (.ref fa) ->
   s₁.heap.get? a=some { cls:=.type "list", data:=.seq vs.toArray }->IntsAre vs ns->ns.length<=n->s₁.gens=#[] ->
   codeAny (model l.prog w) callerA (.call (.ref fa) ⟨[.ref a],[]⟩) (fun r s'=>r=.ok (.ret (.bool true))/\OldK s₁.heap s'.heap/\s'.os=s₁.os/\AllBare s'.gens) s₁) :
  WalkO q loose XP YP l.row.toRowW d [] (fun f vs=>PySem.call f vs):=by
 intro w s₀ s₁ mg mb G Y fa o pm cd doc dV kV ho hd hcd hD hmg hg args vals as hpre hlay hrd hwl hlo;obtain rfl:dV=.none:=Dflts.none hD hdf;obtain rfl:kV=.none:=Dflts.noKw hD;obtain⟨a,vs,ns,rfl,rfl,hobj,hints,hlen⟩:=zsp hn hpre hwl;refine enter_call (xjp (call w s₀ s₁ mg mb fa o pm cd doc a vs ns G Y ho (fd_plain hd) hcd hmg hobj hints hlen hg) fun r s' hq=>?_);obtain⟨rfl,h2,h3,h4⟩:=hq;exact⟨.inl ⟨.bool true,.bool true,[],rfl,fun _=>rfl,.bool true,zsw l _,fun _=>⟨List.Pairwise.nil,fun _ hm=>(nomatch hm)⟩⟩,h2,h3,h4⟩
section
variable {prog:Program}{w:World}{A:Around}{E:Value->Shared->Prop}{s:Shared}{K:Frag}
end
end Att
namespace L2
open PySem PySem.Spec PyProof.Rows
theorem znd:∀{vs:List Value} {ns:List Int},IntsAre vs ns->Vals (ns.map V.int) vs
 | _,_,.nil=>.nil
 | _,_,.cons n t h=>.cons ⟨t,rfl⟩ (znd h)
noncomputable def Only (H:Hp):Prop:=∀b,H b=none\/∃o xs,H b=some (.frz o (.lst xs))
theorem zxm {P:Program}{w:World}{K:Fg}{mg mb:Str->Option Value}{CX:CXT}{k:Nat}{fa a:Addr}{fd:FuncData}{x:Str}{sp:Sp}{s₁:Shared}{vs:List Value}{ns:List Int}
  (KX:K.In s₁.heap)(hns:s₁.heap.Ns mainGlobals mg)(hb:s₁.heap.Ns builtinsNs mb)(hbb:∀ x:Str, x≠"__name__"->mb x=bootBuiltins x)(hlim:s₁.heap.NoLimit)(hg:s₁.gens=#[])
  (ha:s₁.heap.get? a=some { cls:=.type "list", data:=.seq vs.toArray })(hi:IntsAre vs ns)(hl:ns.length<=sizeLine)(hr:Room k callerA)
  (F:∀base:Heap,K.In base->base.Ns mainGlobals mg->FnOk P w K mg base CX k fa fd [x] sp)(hbind:∀(s:Shared) (u:Value),BindsTo s fd ⟨[u],[]⟩ [(x,u)])
  (hsp:∀H:Hp,Only H->SqL K H a (ns.map V.int)->sp [.ref a] H (fun v _=>v=.bl true) fun _ _ _=>False)
  (hCX:∀H e s',CX [] H s₁ (fun _ _ _=>False) e s'->False) :
  codeAny (model P w) callerA (.call (.ref fa) ⟨[.ref a],[]⟩) (fun r s'=>r=.ok (.ret (.bool true))/\OldK s₁.heap s'.heap/\s'.os=s₁.os/\AllBare s'.gens) s₁:=by
 have rv:=znd hi;have lenV:=hi.length;have core:∀H:Hp,Only H->SqL K H a (ns.map V.int)->HOk P w H s₁.heap->(∀b,H b≠none->b=a)->(H a≠none->K.lookup a=none) ->
   codeAny (model P w) callerA (.call (.ref fa) ⟨[.ref a],[]⟩) (fun r s'=>r=.ok (.ret (.bool true))/\OldK s₁.heap s'.heap/\s'.os=s₁.os/\AllBare s'.gens) s₁:=by
  intro H hO hS hok hA hK;have base_of:∀{b:Addr} {o:Obj},s₁.heap.get? b=some o->H b=none->(hidT s₁.heap H).get? b=some o:=fun e n=>zxu e n
  have noA:∀{b:Addr} {o:Obj} {es:Array DictEntry} {ep:Nat},s₁.heap.get? b=some o->o.data=.dict es ep->H b=none:=fun {b o es ep} e d=>by
   cases q:H b with
   | none=>rfl
   | some u =>
    have e':b=a:=hA b (by rw[q];simp);subst e';rw[ha] at e;cases e
    have d':Data.seq vs.toArray _=Data.dict es ep:=d;cases d'
  have nsK:∀{b:Addr} {m:Str->Option Value},s₁.heap.Ns b m->(hidT s₁.heap H).Ns b m:=fun {b m} ⟨o,es,ep,e,d,r⟩=>⟨o,es,ep,base_of e (noA e d),d,r⟩
  have hKb:K.In (hidT s₁.heap H):=fun b o e=>base_of (KX b o e) (by
   cases q:H b with
   | none=>rfl
   | some u =>
    have e':b=a:=hA b (by rw[q];simp);subst e'
    rw[hK (by rw[q];simp)] at e;cases e)
  have hM:Mod K mg (hidT s₁.heap H):=⟨hKb,nsK hns,⟨mb,nsK hb,hbb⟩,let ⟨mc,h1,h2⟩:=hlim;⟨mc,nsK h1,h2⟩⟩
  have e0:Env0 P w K mg (hidT s₁.heap H) callerA [] s₁ H:=⟨rfl,hM,fun b o e=>zbca e,xdf (ztu _ _),trivial,fun b hb=>absurd (show b∈([]:List Addr) from hb) (by simp),hok,.of_eq hg⟩
  refine xjp ((F _ hKb (nsK hns)).run callerA [] s₁ H ⟨[.ref a],[]⟩ [.ref a] [.ref a] _ _ hr e0 (hbind s₁ (.ref a)) (.cons rfl .nil) (hsp H hO hS)) fun r s' h=>?_
  cases r with
  | error e=>exact(hCX H e s' h).elim
  | ok fl =>
   cases fl with
   | next=>exact False.elim h
   | brk=>exact False.elim h
   | cont=>exact False.elim h
   | ret u =>
    obtain⟨v,H',os,bare,un,hok',r',q⟩:=h;have q':v=.bl true:=q;subst q';obtain rfl:u=Value.bool true:=r';refine⟨rfl,OldK.of_keep fun b o e=>?_,os,bare⟩;cases q:H b with
    | none=>exact un.keep b o e q (by intro z;exact absurd (show b∈([]:List Addr) from z) (by simp)) (by simp)
    | some u =>
     rcases hO b with z | ⟨ob,xs,z⟩
     ·rw[q] at z;cases z
     ·have z2:=un.frzs b ob _ z;obtain⟨e1,_⟩:=hok b _ z;obtain⟨e2,_⟩:=hok' b _ z2;rw[e] at e1;cases e1
      exact e2
 cases hk:K.lookup a with
 | some o =>
  have e:=KX a o hk;rw[ha] at e;cases e;refine core (fun _=>none) (fun _=>.inl rfl) (.inr ⟨_,vs.toArray,_,hk,rfl,rfl,rfl,by rw[xbw,lenV];exact hl,by simpa using rv⟩) (fun b u z=>by have z':(none:Option HO)=some u:=z;cases z') (fun b z=>absurd rfl z) fun z=>absurd rfl z
 | none =>
  refine core (fun b=>if b=a then some (.frz { cls:=.type "list", data:=.seq vs.toArray } (.lst (ns.map V.int))) else none) (fun b=>?_) (.inl (.inr ⟨{ cls:=.type "list", data:=.seq vs.toArray }, if_pos rfl⟩)) (fun b u z=>?_) (fun b z=>?_) fun _=>hk
  ·by_cases hb:b=a
   ·exact .inr ⟨_,_,if_pos hb⟩
   ·exact .inl (if_neg hb)
  ·by_cases hb:b=a
   ·have z':=(if_pos hb).symm.trans z;cases z';subst hb;exact⟨ha,by rw[xbd];exact hl,vs,_,rv,ha⟩
   ·have z':=(if_neg hb).symm.trans z;cases z'
  ·by_cases hb:b=a
   ·exact hb
   ·exact absurd (if_neg hb) z
theorem zzy {l:W.OpenLaw}{n k:Nat}{q:Program}{loose:List Str}{XP:(Str->Option Value)->Heap->Prop}{YP:World->Heap->Prop}{d:DefRec}{K:Params->Fg}{CX:World->CXT}{sp:World->Sp}{x:Str}
  (hn:l.most=some n)(hn2:n<=sizeLine)(hdf:d.params.defaults=[])(hr:Room k callerA)
  (hY:∀(w:World) (h:Heap),YP w h->(K w.params).In h)
  (F:∀(w:World) (mg:Str->Option Value) (fa:Addr) (h:Heap),(K w.params).In h->h.Ns mainGlobals mg->mg d.name=some (.ref fa) ->
   ∃fd:FuncData,(∀(s:Shared) (u:Value),BindsTo s fd ⟨[u],[]⟩ [(x,u)]) /\
    ∀base:Heap,(K w.params).In base->base.Ns mainGlobals mg->FnOk l.prog w (K w.params) mg base (CX w) k fa fd [x] (sp w))
  (hsp:∀(w:World) (H:Hp) (a:Addr) (ns:List Int),ns.length<=n->Only H->SqL (K w.params) H a (ns.map V.int)->sp w [.ref a] H (fun v _=>v=.bl true) fun _ _ _=>False)
  (hCX:∀(w:World) (H:Hp) (s:Shared) (e:Value) (s':Shared),CX w [] H s (fun _ _ _=>False) e s'->False) :
  W.WalkO q loose XP YP l.row.toRowW d [] (fun f vs=>PySem.call f vs):=by
 refine Att.attach_call hn hdf fun w s₀ s₁ mg mb fa o pm cd doc a vs ns G Y ho hd hcd hmg hobj hints hlen hg=>?_
 have KX:=hY w _ Y;obtain⟨fd,hb,hF⟩:=F w mg fa _ KX G.T.g hmg;exact zxm KX G.T.g G.T.b G.T.builtins G.T.nolimit hg hobj hints (xbb hlen hn2) hr hF hb (fun H hO hS=>hsp w H a ns hlen hO hS) fun H e s'=>hCX w H s₁ e s'
end L2
/- THE LAST THEOREM (shape;LID,My.* are yours):
 My.Adr: a structure of the addresses that your layer names (classes,functions);My.Txt K t: a structure (Prop) of the equations over K;
 My.txt_mk:{K} {implicit addresses ..} (e1:nsIn K mainGlobals "law"=some (some (.ref f))) (e2:K.lookup f=some ⟨oc, od, .func (fnOf "law" "law" params body scope dV kV doc pm an cdv ct), sl⟩) (e3:codeIn K cdv "law"=true) ..:∃ t, My.Txt K t
(the tactic k_is has no namespace: write k_is) -/
namespace L2
open PySem PySem.Spec PyProof.Rows
noncomputable def defArgs (s:Stmt):Arguments:=match s with
 | .FunctionDef _ a _ _ _ _ _ _ _ _=>a
 | _=>{posonlyargs:=[],args:=[],vararg:=none,kwonlyargs:=[],kw_defaults:=[],kwarg:=none,defaults:=[]}
noncomputable def defBody (s:Stmt):List Stmt:=match s with
 | .FunctionDef _ _ b _ _ _ _ _ _ _=>b
 | _=>[]
noncomputable def defScope (s:Stmt):Scope:=match s with
 | .FunctionDef _ _ _ _ _ _ sc _ _ _=>sc
 | _=>{kind:=.function,names:=[],isGenerator:=false,isCoroutine:=false}
noncomputable abbrev CX0:CXT:=fun _ _ _ _ _ _=>False
noncomputable abbrev E0:XK:=fun _ _ _=>False
theorem pass0 {X:Cx}:Passes CX0 X E0:=fun _ _ _ _ _ _ _ h=>h.elim
structure Fun (K:Fg) (x qual:Str) (st:Stmt) (f:Addr) (fd:FuncData):Prop where
 ex:∃(oc:Value) (od:Option Addr) (kV doc pm:Value) (an:Option Addr) (cdv ct:Value) (osl:Array (Option Value)),
  fd=W.fnOf x qual (defArgs st) (defBody st) (defScope st) .none kV doc pm an cdv ct/\K.lookup f=some ⟨oc,od,.func fd,osl⟩/\W.codeIn K cdv qual=true
 kp:W.keepIn K (.ref f)=true
section
variable {P:Program}{w:World}{K:Fg}{mg:Str->Option Value}{base:Heap}
theorem Fun.ok {x qual:Str}{st:Stmt}{f:Addr}{fd:FuncData}{N ps:List Str}{k:Nat}{sp:Sp}(F:Fun K x qual st f fd)(S:FnScope N ps (defScope st))(len:∀vs H Q E,sp vs H Q E->vs.length=ps.length)
  (hbody:∀(cdv:Value) (A:Around) (outer:List Env) (s:Shared) (H:Hp) (vs:List V) (Q:VK) (E:XK),Room k (A.deeper (envOfC qual (defScope st) s.heap.objs.size f cdv))->sp vs H Q E ->
   ∃t,PSs (cxOf CX0 P w K mg base N qual (defScope st) f cdv A outer s H E).nox (defBody st) t/\t {nx:=fun _ H'=>Q .non H',rt:=Q} (start N vs) H):FnOk P w K mg base CX0 (k+1) f fd ps sp:=by
 obtain⟨oc,od,kV,doc,pm,an,cdv,ct,osl,rfl,lk,hcd⟩:=F.ex;refine zblc lk hcd S len fun A outer s H vs Q E hr hsp=>?_
 obtain⟨t,h,q⟩:=hbody cdv A outer s H vs Q E hr hsp;exact⟨t,h.nox,q⟩
theorem Fun.binds {x qual:Str}{st:Stmt}{f:Addr}{fd:FuncData}{ps:List Str}(F:Fun K x qual st f fd)
  (h:∀(kV doc pm:Value) (an:Option Addr) (cdv ct:Value) (us:List Value),us.length=ps.length->bindArgs (W.fnOf x qual (defArgs st) (defBody st) (defScope st) .none kV doc pm an cdv ct) ⟨us,[]⟩=pure (ps.zip us)):Binds K fd ps []:=by
 obtain⟨oc,od,kV,doc,pm,an,cdv,ct,osl,rfl,lk,hcd⟩:=F.ex;exact .all (h kV doc pm an cdv ct)
theorem zbhm {x qual:Str}{st:Stmt}{f:Addr}{oc:Value}{od an:Option Addr}{osl:Array (Option Value)}{kV doc pm cdv ct:Value}(l:K.lookup f=some ⟨oc,od,.func (W.fnOf x qual (defArgs st) (defBody st) (defScope st) .none kV doc pm an cdv ct),osl⟩)
 (c:W.codeIn K cdv qual=true)(k:W.keepIn K (.ref f)=true):Fun K x qual st f (W.fnOf x qual (defArgs st) (defBody st) (defScope st) .none kV doc pm an cdv ct):=⟨⟨oc,od,kV,doc,pm,an,cdv,ct,osl,rfl,l,c⟩,k⟩
end
theorem zvl {A:Around}{k:Nat}(hr:Room k A):A.units+1 < cLine:=xcx (xcf (by decide:1<=64) _) hr.units
section
variable {X:Cx}
theorem pv (i:Nat){x:Str}{pos:Pos}(hN:X.N[i]?=some x:=by rfl)(hv:Vis X.env.scope x:=by first | exact Or.inl rfl | exact Or.inr (Or.inl rfl) | exact Or.inr (Or.inr rfl))(hd:(x==("__debug__" : Str))=false:=by decide)
 (hcd:(x==("__classdict__" : Str))=false:=by decide):PE X (.Name x pos) (tVar i):=zbgh hN hv hd hcd
end
theorem iteF {A B:Prop}(h:B):if false=true then A else B:=by
 rw[if_neg xeq];exact h
theorem iteT {A B:Prop}(h:A):if true=true then A else B:=by
 rw[if_pos rfl];exact h
section
variable {X:Cx}
end
section
variable {κ:Type}[DecidableEq κ]
end
section
variable {P:Program}{w:World}{B:Around}{R:Result->Shared->Prop}{sh:Shared}
noncomputable abbrev NoX:Value->Shared->Prop:=fun _ _=>False
noncomputable abbrev testsOf (cs:List Expr) (ev:Env):Sem Bool :=
 forIn cs true fun d b=>if b=true then do let z ← isTrue d ev (eval d ev);pure (ForInStep.yield z) else pure (ForInStep.yield b)
noncomputable def CompStep (P:Program) (w:World) (B:Around) (tg x:Expr) (cs:List Expr) (ev:Env) (i l:Value) (K:Shared->Prop) (v:Value) (sa:Shared):Prop :=
 wpAny (model P w) B (letOwnedTupleGo tg i v) (fun _ sb=>wpAny (model P w) B (assign tg ev v) (fun _ sc=>wpAny (model P w) B (testsOf cs ev) (fun ok sd =>
  if ok=true then wpAny (model P w) B (eval x ev) (fun y se=>wpAny (model P w) B (call (.builtin "list.append") [l, y]) (fun _ sf=>K sf) NoX se) NoX sd else K sd) NoX sc) NoX sb) NoX sa
theorem zui {tg it x:Expr}{cs:List Expr}{sc:Scope}{ps:Pos}{i l:Value}{ev:Env}(J:Nat->Shared->Prop)
  (go:∀k sk,J k sk->wpAny (model P w) B (pyNext i) (fun o sa=>match o with
   | none=>R (.ok .next) sa
   | some v=>CompStep P w B tg x cs ev i l (fun sf=>∃k',k' < k/\J k' sf) v sa) NoX sk)
  (k:Nat)(hJ:J k sh):codeAny (model P w) B (.compLoop (.ListComp x [⟨tg,it,cs,0⟩] sc ps) 0 i l ev) R sh:=by
 have none_:∀{E:Value->Shared->Prop} (e:Value) (z:Shared),NoX e z->E e z:=fun _ _ z=>z.elim
 refine codeAny_loop rfl J (fun k sk hk=>wpAny_noted (by
  rw[compTurn_list];refine xba (xka (xba (xdz (go k sk hk) (fun o sa ho=>?_) none_)))
  match o,ho with
  | none,ho=>exact xbl ho
  | some v,ho =>
   refine xba (xdz ho (fun _ sb hb=>xba (xdz hb (fun _ sc' hc=>xba (xdz hc (fun ok sd hd=>?_) none_)) none_)) none_)
   match ok,hd with
   | false,hd=>exact xbl (And.intro rfl hd)
   | true,hd=>exact xba (xba (xdz hd (fun y se he=>xba (xdz he (fun _ sf hf=>xbl (xbl (And.intro rfl hf))) none_)) none_)))) k hJ
end
theorem zmn {env:Env}:∀(names:List (Str×NameKind)) (acc:List (Str×Addr)),(∀y∈names,y.2=.free->∃c,env.cells.lookup y.1=some c)->(∀x c,acc.lookup x=some c->env.cells.lookup x=some c) ->
  ∃cl:List (Str×Addr),(forIn names acc (fun x r=>if(x.2==NameKind.free)=true then do let a ← cellOf env x.1;pure (ForInStep.yield ((x.1,a)::r)) else pure (ForInStep.yield r)):Sem (List (Str×Addr)))=pure cl /\
   (∀x c,cl.lookup x=some c->env.cells.lookup x=some c)/\(∀x c,acc.lookup x=some c->∃c',cl.lookup x=some c')/\∀x,(x,NameKind.free)∈names->∃c,cl.lookup x=some c:=by
 intro names
 induction names with
 | nil=>intro acc _ ha;exact⟨acc,rfl,ha,fun x c e=>⟨c,e⟩,fun x z=>(nomatch z)⟩
 | cons y r ih =>
  intro acc hf ha;obtain⟨n,k⟩:=y;by_cases hk:k=.free
  ·subst hk;obtain⟨c,hc⟩:=hf (n,.free) xcn rfl
   obtain⟨cl,e,h1,h2,h3⟩:=ih ((n,c)::acc) (fun y hy=>hf y (xbm _ hy)) (fun x c' e=>by
    rw[xes] at e;by_cases hx:x=n
    ·subst hx;rw[xgi] at e;cases e;exact hc
    ·rw[xfp.mpr hx] at e
     exact ha x c' e)
   refine⟨cl,?_,h1,fun x c' e'=>?_,fun x hx=>?_⟩
   ·rw[List.forIn_cons];simp only[xgi,ite_true];have q:cellOf env n=pure c:=by unfold cellOf;rw[hc]
    rw[q];simp only[pure_bind];exact e
   ·by_cases hx:x=n
    ·subst hx;exact h2 x c (by rw[xes,xgi])
    ·exact h2 x c' (by rw[xes,xfp.mpr hx];exact e')
   ·rcases xbr.mp hx with z | z
    ·cases z;exact h2 n c (by rw[xes,xgi])
    ·exact h3 x z
  ·obtain⟨cl,e,h1,h2,h3⟩:=ih acc (fun y hy=>hf y (xbm _ hy)) ha;refine⟨cl,?_,h1,h2,fun x hx=>?_⟩
   ·rw[List.forIn_cons];have hb:(k==NameKind.free)=false:=by simpa using hk
    simp only[hb,xdg,xfb,pure_bind];exact e
   ·rcases xbr.mp hx with z | z
    ·cases z;exact absurd rfl hk
    ·exact h3 x z
theorem zrj {scope:Scope}{env:Env}(h:∀y∈scope.names,y.2=.free->∃c,env.cells.lookup y.1=some c) :
  ∃cl,closureFor scope env=pure cl/\(∀x c,cl.lookup x=some c->env.cells.lookup x=some c)/\∀x,(x,NameKind.free)∈scope.names->∃c,cl.lookup x=some c:=by
 obtain⟨cl,e,h1,_,h3⟩:=zmn (env:=env) scope.names [] h (fun x c e=>(nomatch e));refine⟨cl,?_,h1,h3⟩;unfold closureFor;have e':=congrArg (fun m=>m >>= fun r=>(pure r:Sem (List (Str×Addr)))) e;simp only[pure_bind] at e';exact e'
theorem zbj {env:Env}:∀{names:List (Str×NameKind)} {x:Str} {k:NameKind},(names.map fun(n,k)=>if(k==NameKind.free&&env.scope.kind==.function&&env.kindOf n==some .cell) then(n,NameKind.cell) else(n,k)).lookup x=some k ->
  names.lookup x=some k\/(k=.cell/\names.lookup x=some .free)
 | [],_,_,h=>by simp at h
 | (n,k')::r,x,k,h=>by
  have ih:=@zbj env r x k;have h':List.lookup x ((if(k'==NameKind.free&&env.scope.kind==.function&&env.kindOf n==some .cell)=true then(n,NameKind.cell) else(n,k'))::_)=_:=h;cases hx:x==n with
  | true =>
   by_cases hc:(k'==NameKind.free&&env.scope.kind==.function&&env.kindOf n==some .cell)=true
   ·rw[if_pos hc] at h';simp only[xes,hx] at h' ⊢;cases h';rw[xdp,xdp] at hc;exact .inr ⟨rfl,by rw[eq_of_beq hc.1.1]⟩
   ·rw[if_neg hc] at h';simp only[xes,hx] at h' ⊢;exact .inl h'
  | false =>
   have h2:(r.map fun(n,k)=>if(k==NameKind.free&&env.scope.kind==.function&&env.kindOf n==some .cell) then(n,NameKind.cell) else(n,k)).lookup x=some k:=by
    by_cases hc:(k'==NameKind.free&&env.scope.kind==.function&&env.kindOf n==some .cell)=true
    ·rw[if_pos hc] at h';simp only[xes,hx] at h';exact h'
    ·rw[if_neg hc] at h';simp only[xes,hx] at h';exact h'
   simp only[xes,hx];exact ih h2
noncomputable def cxC (X:Cx) (N:List Str) (scope:Scope) (cl:List (Str×Addr)) (C:Addr) (fp:List Addr) (s:Shared) (H:Hp):Cx :=
 {X with N:=N,s₀:=s,H₀:=H,env:=compEnvC scope cl C X.env,outer:=X.stack,ex:=fp,fn:=fun _=>false,pn:=[],xe:=fun _ _=>False}
noncomputable def startC (k:Nat) (is:List Nat) (σ:St):St:=List.replicate k none++is.map fun i=>(σ[i]?).getD none
structure CompScope (X:Cx) (N:List Str) (k:Nat) (is:List Nat) (scope:Scope):Prop where
 kind:scope.kind=.function
 nocell:∀y∈scope.names,y.2≠.cell
 names:∀y∈scope.names,y.2=.local->scope.names.lookup y.1=some .local
 frees:∀y∈scope.names,y.2=.free->X.env.kindOf y.1=some .cell\/X.env.kindOf y.1=some .free
 len:N.length=k+is.length
 own:∀j i,is[j]?=some i->∃x,N[k+j]?=some x/\X.N[i]?=some x/\scope.names.lookup x=some .free
theorem zfi {x:Str}{k:NameKind}{l:List (Str×NameKind)}(h:l.lookup x=some k):(x,k)∈l:=xfo h
section
variable {X:Cx}{aA:List (Addr×Obj)}{σ:St}{H:Hp}{s:Shared}
theorem zxr {N:List Str}{k:Nat}{is:List Nat}{scope:Scope}{cl:List (Str×Addr)}{fp:List Addr}{h1:Heap}{tk:Nat}(S:CompScope X N k is scope)(I:Inv X aA σ H s)
  (c1:∀x c,cl.lookup x=some c->X.env.cells.lookup x=some c)(c2:∀x,(x,NameKind.free)∈scope.names->∃c,cl.lookup x=some c)
  (hf:∀b∈fp,FpOk X aA H b)(hfo:∀b∈fp,∃o,s.heap.get? b=some o)(hn:h1.Ns s.heap.objs.size (fun _=>none))(hk:∀b o,s.heap.get? b=some o->h1.get? b=some o) :
  Inv (cxC X N scope cl s.heap.objs.size fp s H) [] (startC k is σ) H {s with heap:=h1,toks:=tk}:=by
 have hC:∀b o,s.heap.get? b=some o->b≠s.heap.objs.size:=fun b o e=>xca (xbt e)
 have nfs:∀b∈fp,b∉frs X.stack:=fun b hb z=>by
  rcases xbr.mp (I.stkSub b z) with e | e
  ·exact(hf b hb).2.1 e
  ·exact(hf b hb).2.2.1 e
 refine⟨⟨I.ok.mod,S.kind,I.ok.glob,I.ok.blt,xbg _,fun x y c e1 e2=>I.ok.inj x y c (c1 x c e1) (c1 y c e2),fun x hx=>?_,fun x c z=>?_,I.ok.hd,I.ok.frames,.inl rfl,fun b hb=>⟨?_,fun x c e=>?_⟩,I.bs,xbb I.ok.bsz I.sz,fun b o e hb=>?_,nfs,I.stack,I.stkFree⟩,
  rfl,I.bare,Un.kept hk,⟨_,hn,fun i x v e1 e2 e3=>?_⟩,fun x c e=>?_,I.hok.fresh (xbg _),fun x c e=>I.freeC x c (c1 x c e),fun p hp=>(nomatch hp),I.hok.kept hk,?_,I.hnd⟩
 ·have hx':(scope.names.map fun(n,k)=>if(k==NameKind.free&&X.env.scope.kind==.function&&X.env.kindOf n==some .cell) then(n,NameKind.cell) else(n,k)).lookup x=some .cell\/(scope.names.map fun(n,k)=>if(k==NameKind.free&&X.env.scope.kind==.function&&X.env.kindOf n==some .cell) then(n,NameKind.cell) else(n,k)).lookup x=some .free:=hx;have q:scope.names.lookup x=some .free:=by
   rcases hx' with z | z
   ·rcases zbj z with q | ⟨_,q⟩
    ·exact absurd rfl (S.nocell _ (zfi q))
    ·exact q
   ·rcases zbj z with q | ⟨q,_⟩
    ·exact q
    ·cases q
  exact c2 x (zfi q)
 ·cases z
 ·obtain⟨o,e⟩:=hfo b hb;exact hC b o e
 ·exact(hf b hb).2.2.2.2.1 x c (c1 x c e)
 ·rcases(hf b hb).2.2.2.1 with z | z
  ·exact I.ok.noex b o e z
  ·exact absurd (xbk (xbt (I.ok.bs b o e).1) z) (xge _)
 ·-- a name of the def around
  unfold startC at e2;have hi:k<=i:=by
   rcases xhl i k with z | z
   ·rw[xbf (by rw[xfw];exact z),List.getElem?_replicate,if_pos z] at e2;cases e2
   ·exact z
  rw[xcr (by rw[xfw];exact hi),xfw,xck] at e2;cases ej:is[i - k]? with
  | none=>rw[ej] at e2;cases e2
  | some j =>
   rw[ej] at e2;have e2':(σ[j]?).getD none=some v:=xcp e2;obtain⟨y,y1,y2,y3⟩:=S.own (i - k) j ej;have ey:y=x:=by
    have z:N[i]?=some y:=by rw[← y1];congr 1;lia
    have e1':N[i]?=some x:=e1;rw[z] at e1';exact xcp e1'
   subst ey;have e4:σ[j]?=some (some v):=by
    cases q:σ[j]? with
    | none=>rw[q] at e2';cases e2'
    | some o=>rw[q] at e2';exact congrArg some e2'
   have kd:=S.frees _ (zfi y3) rfl;have vis:Vis X.env.scope y:=.inr kd;obtain⟨m,_,hl⟩:=I.loc;obtain⟨u,r,lk⟩:=hl j y v y2 e4 vis;refine⟨u,r,?_⟩;rcases lk with⟨z,_⟩ | ⟨_,c,e5,cc⟩
   ·rcases kd with q | q<;>(rw[q] at z;cases z)
   ·obtain⟨c',e6⟩:=c2 y (zfi y3);have:c'=c:=by
     have z:=c1 y c' e6;rw[e5] at z;exact(xcp z).symm
    subst this;refine .inr ⟨?_,c',e6,?_⟩
    ·rcases e3 with z | z | z
     ·exact absurd (zbj z) (by
       rw[y3];rintro(q | ⟨q,_⟩)
       ·cases q
       ·cases q)
     ·exact .inl z
     ·exact .inr z
    ·obtain⟨o,ho,hd⟩:=cc;exact⟨o,hk _ o ho,hd⟩
 ·obtain⟨v,o,ho,hd⟩:=I.cell x c (c1 x c e);exact⟨v,o,hk _ o ho,hd⟩
 ·unfold startC;rw[xbp,xfw,xbd];exact S.len.symm
theorem zxs {N:List Str}{scope:Scope}{cl:List (Str×Addr)}{fp:List Addr}{σ':St}{H':Hp}{s':Shared}{h':Heap}(I:Inv X aA σ H s)(hf:∀b∈fp,FpOk X aA H b)(J:Inv (cxC X N scope cl s.heap.objs.size fp s H) [] σ' H' s')
  (hs:Heap.SameBut s.heap.objs.size s'.heap h'):Inv X aA σ H' {s' with heap:=h'}:=by
 have hC:∀b o,s.heap.get? b=some o->b≠s.heap.objs.size:=fun b o e=>xca (xbt e)
 have hH:H' s.heap.objs.size=none:=J.free;have B:Un (frs X.stack) fp H H' s.heap s'.heap:=J.base
 have U:Un (frs X.stack) fp H H' s.heap h':=⟨fun b o e n h1 h2=>hs.extBut b o (hC b o e) (B.keep b o e n h1 h2),fun b o e n h1 h2=>by
   obtain⟨sl,q⟩:=B.slot b o e n h1 h2;exact⟨sl,hs.extBut b _ (hC b o e) q⟩,B.free,fun b o e hx=>by
   obtain⟨o',q⟩:=B.there b o e hx
   exact⟨o',hs.extBut b o' (hC b o e) q⟩,B.tups,B.frzs,B.tbls⟩
 refine I.call' (s':={s' with heap:=h'}) J.os U (fun a o e=>?_) J.bare (fun b hb=>⟨(hf b hb).2.2.2.1,(hf b hb).2.1,(hf b hb).2.2.2.2.1,(hf b hb).2.2.2.2.2⟩);refine(J.hok a o e).stay (fun b u hb q=>hs.extBut b u ?_ q) (fun _ q=>q) fun _ _ q=>q
 rcases hb with z | z
 ·intro y;rw[z] at y;rw[y,hH] at e;cases e
 ·intro y;rw[y,hH] at z;cases z
end
structure OffC (X:Cx) (aA:List (Addr×Obj)) (H:Hp) (C:Addr):Prop where
 free:H C=none
 loc:C≠X.env.locals
 young:X.s₀.heap.objs.size<=C
 cell:∀x c,X.env.cells.lookup x=some c->c≠C
 pin:∀p∈X.pn++aA,p.1≠C
theorem OffC.back {X:Cx}{aA:List (Addr×Obj)}{σ:St}{H:Hp}{C:Addr}{s:Shared}{h':Heap}(o:OffC X aA H C)(I:Inv X aA σ H s)(hs:Heap.SameBut C s.heap h'):Inv X aA σ H {s with heap:=h'} :=
 I.turned (t':=s.toks) (fun b u hb e=>hs.extBut b u hb e) o.free o.loc (.inr o.young) o.cell o.pin
noncomputable def nxC (p:Addr) (te:TE) (tc:TT) (N:St->Hp->Prop):St->Hp->Prop:=fun σ2 H3=>tc σ2 H3 fun b H4 =>
 if b=true then te σ2 H4 fun y H5=>∃xs,H5 p=some (.lst xs)/\xs.length < sizeLine/\N σ2 (upd H5 p (.lst (xs++[y]))) else N σ2 H4
noncomputable def CompG (J:It) (g:TG) (tc:TT) (te:TE) (Q:VK) (p:Addr) (σ:St) (H:Hp):Prop:=∃W:Nat->Nat->St->Hp->Prop,(∃m,W 0 m σ H) /\
 ∀i m σ' H',W i m σ' H'->(J.stop i H'/\Q (.ref p) H')\/(J.go i H'/\∃N:St->Hp->Prop,(∀σ2 H2,N σ2 H2->∃m',m' < m/\W (i+1) m' σ2 H2)/\∀x H2,J.yld i H' x H2->g x σ' H2 (nxC p te tc N))
noncomputable def tComp (wi:TI) (k:Nat) (is:List Nat) (g:TG) (tc:TT) (te:TE):TE:=fun σ H Q=>wi σ H fun J H1=>∀p,H1 p=none->CompG J g tc te Q p (startC k is σ) (upd H1 p (.lst []))
noncomputable def tYes:TT:=fun _ H Q=>Q true H
section
variable {X:Cx}{tg iter elt:Expr}{ifs:List Expr}{wi:TI}{g:TG}{tc:TT}{te:TE}{N:List Str}{k:Nat}{is:List Nat}{scope:Scope}{pos:Pos}
noncomputable def PIf (X:Cx) (ifs:List Expr) (t:TT):Prop :=
 ∀(aA:List (Addr×Obj)) (s:Shared) (σ:St) (H:Hp) (Q:Bool->Hp->Prop),Inv X aA σ H s->t σ H Q ->
  wpAny (model X.prog X.w) X.A (forIn ifs true fun c r=>if r=true then do let ok ← isTrue c X.env (eval c X.env);pure (ForInStep.yield ok) else pure (ForInStep.yield r)) (TP X aA σ Q) X.xe s
theorem zbbg:PIf X [] tYes:=fun aA s σ H Q I h=>wpAny_tests_nil ⟨H,I,h⟩
theorem zbbf {c:Expr}{t:TT}(h:PT X c t):PIf X [c] t:=fun aA s σ H Q I hq=>wpAny_tests_one (h aA s σ H Q I hq)
theorem zlg (hcalm:X.calm=true)(hg:∀cl C fp s H,PG (cxC X N scope cl C fp s H) tg g)(hc:∀cl C fp s H,PIf (cxC X N scope cl C fp s H) ifs tc)(he:∀cl C fp s H,PE (cxC X N scope cl C fp s H) elt te)
  (S:CompScope X N k is scope){aA:List (Addr×Obj)}{σ:St}{H2:Hp}{s2:Shared}{cl:List (Str×Addr)}{it:Addr}{fp:List Addr}{tn:Nat->Heap->Prop}{J:It}{Q:VK}{E:Value->Shared->Prop}{RR:Value->Addr->Result->Shared->Prop}
  (I2:Inv X aA σ H2 s2)(T:Turn X.prog X.w X.K tg J fp it tn)(st2:tn 0 s2.heap)(f2:∀b∈fp,FpOk X aA H2 b)
  (c1:∀x c,cl.lookup x=some c->X.env.cells.lookup x=some c)(c2:∀x,(x,NameKind.free)∈scope.names->∃c,cl.lookup x=some c)
  (h:∀p,H2 p=none->∃W:Nat->Nat->St->Hp->Prop,(∃m,W 0 m (startC k is σ) (upd H2 p (.lst []))) /\
   ∀i m σ' H',W i m σ' H'->(J.stop i H'/\Q (.ref p) H')\/(J.go i H'/\∃N:St->Hp->Prop,(∀σ2 H2,N σ2 H2->∃m',m' < m/\W (i+1) m' σ2 H2)/\∀x H2,J.yld i H' x H2->g x σ' H2 (nxC p te tc N)))
  (hR:∀(p C:Addr) (s':Shared) (H':Hp) (m:Str->Option Value),OffC X aA H' C->s'.heap.Ns C m->Inv X aA σ H' s'->Q (.ref p) H'->RR (.ref p) C (.ok .next) s') :
  wpAny (model X.prog X.w) X.A (newList []) (fun acc s₃=>wpAny (model X.prog X.w) X.A (newFunctionEnv scope X.env.globals cl [] X.env.qual none .none (some X.env)) (fun cenv s₄ =>
   codeAny (model X.prog X.w) X.A (.compStart (.ListComp elt [⟨tg,iter,ifs,0⟩] scope pos) 0 (.ref it) acc {cenv with scope:=relabel scope X.env}) (RR acc cenv.locals) s₄) E s₃) E s2:=by
 refine xfc ?_;have fresh:H2 s2.heap.objs.size=none:=I2.fresh;have I3:Inv X aA σ (upd H2 s2.heap.objs.size (.lst [])) { s2 with heap:=s2.heap.push { cls:=.type "list", dict:=none, data:=.seq ([]:List Value).toArray } }:=I2.lnew (t':=s2.toks) (.nil) (by decide)
 generalize hs3:({ s2 with heap:=s2.heap.push { cls:=.type "list", dict:=none, data:=.seq ([]:List Value).toArray } }:Shared)=s3 at I3
 have k3:∀b o,s2.heap.get? b=some o->s3.heap.get? b=some o:=fun b o e=>by rw[← hs3];exact xbo _ e
 refine wpAny_newFunctionEnv S.nocell (by intro y hy;simp at hy) (fun h₁ hns₁ hsb₁=>?_) S.kind;have st3:tn 0 s3.heap:=T.keep _ _ _ st2 fun b _ o e=>k3 b o e
 have f3:∀b∈fp,FpOk X aA (upd H2 s2.heap.objs.size (.lst [])) b:=fun b hb=>by
  obtain⟨o,e,_⟩:=T.obj _ _ st2 b hb;exact⟨by rw[zv (xca (xbt e))];exact(f2 b hb).1,(f2 b hb).2⟩
 have k4:∀b o,s3.heap.get? b=some o->h₁.get? b=some o:=fun b o e=>hsb₁.extBut b o (xca (xbt e)) (xbo _ e)
 have J4:=zxr (tk:=s3.toks+([]:List (Str×Value)).length) S I3 c1 c2 f3 (fun b hb=>let ⟨o,e,_⟩:=T.obj _ _ st3 b hb;⟨o,e⟩) hns₁ k4;obtain⟨W,⟨m0,w0⟩,turn⟩:=h s2.heap.objs.size fresh;have st4:tn 0 h₁:=T.keep _ _ _ st3 fun b _ o e=>k4 b o e
 have loop:codeAny (model X.prog X.w) X.A (.compLoop (.ListComp elt [⟨tg,iter,ifs,0⟩] scope pos) 0 (.ref it) (.ref s2.heap.objs.size) (compEnvC scope cl s3.heap.objs.size X.env)) (RR (.ref s2.heap.objs.size) s3.heap.objs.size) {s3 with heap:=h₁,toks:=s3.toks+([]:List (Str×Value)).length}:=by
  have stat:∀{H':Hp},(∀b∈fp,H' b=none)->∀b∈fp,FpOk (cxC X N scope cl s3.heap.objs.size fp s3 (upd H2 s2.heap.objs.size (.lst []))) [] H' b:=fun {H'} hn b hb=>by
   obtain⟨o,e,_⟩:=T.obj _ _ st3 b hb;refine⟨hn b hb,xca (xbt e),J4.ok.exfs b hb,.inl hb,fun x c e'=>(f3 b hb).2.2.2.2.1 x c (c1 x c e'),fun p hp=>(nomatch hp)⟩
  refine zui (fun n s'=>∃i σ' H',Inv (cxC X N scope cl s3.heap.objs.size fp s3 (upd H2 s2.heap.objs.size (.lst []))) [] σ' H' s'/\tn i s'.heap/\(∀b∈fp,H' b=none)/\W i n σ' H') ?_ m0
   ⟨0,_,_,J4,st4,fun b hb=>(f3 b hb).1,w0⟩
  rintro n s5 ⟨i,σ5,H5,I5,st5,fr5,w5⟩;rcases turn i n σ5 H5 w5 with⟨stop,q⟩ | ⟨go,N',hN',step⟩
  ·refine thn (T.done (cxC X N scope cl s3.heap.objs.size fp s3 (upd H2 s2.heap.objs.size (.lst []))) rfl rfl rfl hcalm i [] s5 σ5 H5 _ I5 (stat fr5) st5 stop) fun r s6 hq0=>?_
   obtain⟨hr,I6⟩:=hq0;subst hr;obtain⟨m,hm,_⟩:=I6.loc;refine hR _ _ s6 H5 m ⟨I6.free,xkh I3.lt,I3.sz,fun x c e=>?_,fun p hp=>xca (xbt (I3.pin p hp).1)⟩ hm (zxs (h':=s6.heap) I3 f3 I6 (.refl ..)) q;obtain⟨v,o,ho,_⟩:=I3.cell x c e;exact xca (xbt ho)
  ·refine thn (T.item (cxC X N scope cl s3.heap.objs.size fp s3 (upd H2 s2.heap.objs.size (.lst []))) rfl rfl rfl hcalm i [] s5 σ5 H5 _ I5 (stat fr5) st5 go) fun r s6 hq0=>?_
   obtain⟨u,hr,h6⟩:=hq0;subst hr;refine thn h6 fun _ s7 hq0=>?_
   obtain⟨x,H7,I7,r7,y7,st7,fr7⟩:=hq0;have I7':=I7.pinned (stat fr7) (T.obj _ _ st7);refine thn (hg cl s3.heap.objs.size fp s3 _ _ s7 σ5 H7 x u _ I7' r7 (step x H7 y7)) fun _ s8 hq0=>?_
   obtain⟨σ8,H8,I8,q8⟩:=hq0;refine thn (hc cl s3.heap.objs.size fp s3 _ _ s8 σ8 H8 _ I8 q8) fun b s9 hq0=>?_
   obtain⟨H9,I9,q9⟩:=hq0;have again:∀{σ':St} {H':Hp} {s':Shared} {m':Nat},Inv (cxC X N scope cl s3.heap.objs.size fp s3 (upd H2 s2.heap.objs.size (.lst []))) ([]++pinsAt fp s7.heap) σ' H' s'->m' < n->W (i+1) m' σ' H' ->
     ∃m,m < n/\∃i σ' H',Inv (cxC X N scope cl s3.heap.objs.size fp s3 (upd H2 s2.heap.objs.size (.lst []))) [] σ' H' s'/\tn i s'.heap/\(∀b∈fp,H' b=none)/\W i m σ' H':=fun {σ' H' s' m'} I' hm w'=>by
    refine⟨m',hm,i+1,σ',H',I'.unpinned,T.keep _ _ _ st7 fun b hb o e=>(I'.pin (b,o) (xde _ (xde _ (zfh hb e)))).1,fun b hb=>?_,w'⟩;obtain⟨o,e,d⟩:=T.obj _ _ st7 b hb;exact(I'.pin (b,o) (xde _ (xde _ (zfh hb e)))).2.1
   cases b with
   | false =>
    obtain⟨m',hm,w'⟩:=hN' _ _ q9;exact again I9 hm w'
   | true =>
    refine thn (he cl s3.heap.objs.size fp s3 _ _ s9 σ8 H9 _ I9 q9) fun v s10 hq0=>?_
    obtain⟨y,H10,I10,r10,xs,hxs,hz,n10⟩:=hq0;obtain⟨m',hm,w'⟩:=hN' _ _ n10;refine thn (znq (X:=cxC X N scope cl s3.heap.objs.size fp s3 (upd H2 s2.heap.objs.size (.lst []))) _ s10 σ8 H10 (.ref s2.heap.objs.size) [y] _ [v] (fun _ H'=>H'=upd H10 s2.heap.objs.size (.lst (xs++[y]))) I10 rfl (.cons r10 .nil) ⟨_,xs,y,rfl,rfl,hxs,hz,rfl⟩) fun _ s11 hq0=>?_
    obtain⟨_,H11,I11,_,e11⟩:=hq0;subst e11;exact again I11 hm w'
 have hs3':s2.heap.push { cls:=.type "list", dict:=none, data:=.seq ([]:List Value).toArray }=s3.heap:=by rw[← hs3]
 have fin:=codeAny_compStart_list (elt:=elt) (target:=tg) (iter:=iter) (ifs:=ifs) (rest:=[]) (scope:=scope) (pos:=pos) loop (T.self X.A 0 _ _ _ st4 loop);exact fin
theorem zhw (S:CompScope X N k is scope){aA:List (Addr×Obj)}{σ:St}{H:Hp}{s:Shared}(I:Inv X aA σ H s) :
  ∃cl,closureFor scope X.env=pure cl/\(∀x c,cl.lookup x=some c->X.env.cells.lookup x=some c)/\∀x,(x,NameKind.free)∈scope.names->∃c,cl.lookup x=some c :=
 zrj fun y hy hf=>I.ok.has y.1 (S.frees y hy hf)
theorem zbbq (hcalm:X.calm=true)(hi:PI X tg iter wi)(hg:∀cl C fp s H,PG (cxC X N scope cl C fp s H) tg g)(hc:∀cl C fp s H,PIf (cxC X N scope cl C fp s H) ifs tc)(he:∀cl C fp s H,PE (cxC X N scope cl C fp s H) elt te)
  (S:CompScope X N k is scope)(hs:∀x,foldedSetIterable iter X.env x=pure x:=by intro _;rfl):PE X (.ListComp elt [⟨tg,iter,ifs,0⟩] scope pos) (tComp wi k is g tc te):=by
 intro aA s σ H Q I h;obtain⟨cl,e,c1,c2⟩:=zhw S I;rw[eval_ListComp];refine wpAny_comprehension_free (use:=none) rfl hs e S.kind S.names (thn (hi aA s σ H _ I h) fun xv s1 h1=>thn h1 fun itv s2 h2=>?_);obtain⟨it,fp,tn,J,H2,e2,I2,T,st2,f2,h3⟩:=h2;subst e2;refine zlg (Q:=Q) (RR:=fun acc C=>compPost (model X.prog X.w) X.A X.xe none (EP X aA σ Q) acc C) hcalm hg hc he S I2 T st2 f2 c1 c2 h3 ?_;intro p C s' H' m off hm I' q;exact⟨m,hm,fun h' hs'=>⟨.ref p,H',off.back I' hs',rfl,q⟩⟩
theorem zbaz {i:Nat}{x:Str}{pos':Pos}(hcalm:X.calm=true)(hN:X.N.Nodup)(hxi:X.N[i]?=some x)(hx:Loc X.env.scope x)(hi:PI X tg iter wi)(hg:∀cl C fp s H,PG (cxC X N scope cl C fp s H) tg g)(hc:∀cl C fp s H,PIf (cxC X N scope cl C fp s H) ifs tc)
  (he:∀cl C fp s H,PE (cxC X N scope cl C fp s H) elt te)(S:CompScope X N k is scope){spos:Pos}(hsw:swapsWith (.ListComp elt [⟨tg,iter,ifs,0⟩] scope pos) (some (.Name x pos')) spos.line X.env=pure true:=by rfl)
  (hf:X.fn x=true\/X.env.scope.names.lookup x=some .local:=by first | exact .inl rfl | exact .inr rfl | assumption)
  (hs:∀x,foldedSetIterable iter X.env x=pure x:=by intro _;rfl):PS X (.Assign [.Name x pos'] (.ListComp elt [⟨tg,iter,ifs,0⟩] scope pos) spos) (tAsg (tComp wi k is g tc te) (gName i)):=by
 intro aA s σ H D I h;obtain⟨cl,e,c1,c2⟩:=zhw S I;rw[exec_Assign_Name_used (hs:=hsw)];refine xba (xka (xba (?_:wpAny _ X.A _ _ _ s)));show wpAny _ X.A (do let _ ← comprehension (.ListComp elt [⟨tg,iter,ifs,0⟩] scope pos) scope X.env _ (newList []) false (eval iter X.env) (some (assign (.Name x pos') X.env))) _ _ s
 refine xba (xdz (wpAny_comprehension_free (use:=some (assign (.Name x pos') X.env)) (Q:=fun _ s'=>SP X aA D .next s') rfl hs e S.kind S.names
  (thn (hi aA s σ H _ I h) fun xv s1 h1=>thn h1 fun itv s2 h2=>?_)) (fun _ s' hq=>xbl (xbl hq)) fun _ _ e=>e)
 obtain⟨it,fp,tn,J,H2,e2,I2,T,st2,f2,h3⟩:=h2;subst e2;refine zlg (Q:=fun v H'=>gName i v σ H' D.nx) (RR:=fun acc C=>compPost (model X.prog X.w) X.A X.xe (some (assign (.Name x pos') X.env)) (fun _ s'=>SP X aA D .next s') acc C) hcalm hg hc he S I2 T st2 f2 c1 c2 h3 ?_;intro p C s' H' m off hm I' q;show wpAny _ X.A (assign (.Name x pos') X.env (.ref p)) _ _ _;refine wpAny_assign_Name (znf (v:=.ref p) I' hN hxi hx rfl (fun s'' I'' hq0=>?_) hf);obtain⟨a,hsb,ha⟩:=hq0;have hCa:C≠a:=by
  rcases ha with z | z
  ·rw[z];exact off.loc
  ·exact(off.cell x a z).symm
 exact⟨m,hm.sameBut hsb hCa,fun h' hs'=>⟨_,H',off.back I'' hs',q⟩⟩
end
section
variable {g:TG}{tc:TT}{te:TE}{Q:VK}{σ:St}{H:Hp}{p:Addr}
end
noncomputable def Callee (P:Program) (w:World) (K:Fg) (mg:Str->Option Value) (base:Heap) (x:Str) (k:Nat) (ps:List Str) (sp:Sp):Prop :=
 ∃f fd,FnOk P w K mg base CX0 k f fd ps sp/\Binds K fd ps []/\W.keepIn K (.ref f)=true/\mg x=some (.ref f)
section
variable {X:Cx}{x:Str}{k:Nat}{ps:List Str}{sp:Sp}{p pos:Pos}{e:Expr}{es:List Expr}{t:TA}
theorem zwz (c:Callee X.prog X.w X.K X.mg X.base x k ps sp)(hr:Room k X.A)(hg:Gl X x)(ha:PA X (e::es) t)(hdb:(x==("__debug__" : Str))=false:=by decide)
  (he:starEach (e::es) X.env=(false,eval e X.env)::starEach es X.env:=by rfl)(hpl:(backTo pos (starEach es X.env)).any (·.1)=false:=by rfl) :
  PE X (.Call (.Name x p) (e::es) [] pos) (tCall sp [] E0 t):=by
 obtain⟨f,fd,F,b,kp,m⟩:=c;exact zbbs F hr hg m kp b .nil pass0 ha hdb he hpl
end
noncomputable def TopF (K:Fg) (x:Str) (st:Stmt):Prop :=
 ∃f fd,W.nsIn K mainGlobals x=some (some (.ref f))/\Fun K x x st f fd
theorem zcb {K:Fg}{x:Str}{st:Stmt}{f:Addr}{od an:Option Addr}{sl:Array (Option Value)}{oc kV dc pm cd ct:Value}
  (a:W.nsIn K mainGlobals x=some (some (.ref f)))(l:K.lookup f=some ⟨oc,od,.func (W.fnOf x x (defArgs st) (defBody st) (defScope st) .none kV dc pm an cd ct),sl⟩)(c:W.codeIn K cd x=true)(k:W.keepIn K (.ref f)=true):TopF K x st :=
 ⟨f,_,a,zbhm l c k⟩
theorem zuj {P:Program}{w:World}{K:Fg}{mg:Str->Option Value}{base h:Heap}{x:Str}{st:Stmt}{N ps:List Str}{k:Nat}{sp:Sp}(T:TopF K x st)(X:K.In h)(G:h.Ns mainGlobals mg)(S:FnScope N ps (defScope st))
  (bd:∀(kV doc pm:Value) (an:Option Addr) (cdv ct:Value) (us:List Value),us.length=ps.length->bindArgs (W.fnOf x x (defArgs st) (defBody st) (defScope st) .none kV doc pm an cdv ct) ⟨us,[]⟩=pure (ps.zip us))
  (len:∀vs H Q E,sp vs H Q E->vs.length=ps.length)
  (hbody:∀(f:Addr) (cdv:Value) (A:Around) (outer:List Env) (s:Shared) (H:Hp) (vs:List V) (Q:VK) (E:XK),Room k (A.deeper (envOfC x (defScope st) s.heap.objs.size f cdv))->sp vs H Q E ->
   ∃t,PSs (cxOf CX0 P w K mg base N x (defScope st) f cdv A outer s H E).nox (defBody st) t/\t {nx:=fun _ H'=>Q .non H',rt:=Q} (start N vs) H):Callee P w K mg base x (k+1) ps sp:=by
 obtain⟨f,fd,a,F⟩:=T;exact⟨f,fd,F.ok S len (hbody f),F.binds bd,F.kp,W.mg_of X G a⟩
section
variable {X:Cx}
theorem zby:CallR X (.builtin "isinstance") (fun xs H Q=>∃ x T t b, xs=[x, .ty T]/\TyOf X.K H x t/\W.kitOne X.K t (.type T)=some b/\Q (.bl b) H):=by
 intro aA s σ H xs us Q I r h;obtain⟨x,T,t,b,rfl,ty,e,q⟩:=h;obtain⟨u,w',rfl,ru,rw'⟩:=vals2 r;cases(show w'=Value.type T from rw');exact zts I ru ty e fun tk=>⟨.bl b,H,I.tok tk,rfl,q⟩
noncomputable def CDivP (i j:Int):Prop:=0 < j/\j < 2 ^ 1000
theorem zjo:OpR X (binaryOp .FloorDiv) (rI CDivP fun i j=>.int (i / j)):=opI fun i j _ _ _ _ _ hc q=>by
 have e:i.fdiv j=i / j:=Int.fdiv_eq_ediv_of_nonneg i (by have:=hc.1;lia);refine floordiv_int (by have:=hc.1;lia) (by rw[e];exact q) (.inl (PyProof.noPylong_of_log2 ?_));have h1:j.natAbs < 2 ^ 1000:=by
  have h2:=hc.1;have h3:=hc.2;have h4:(j.natAbs:Int)=j:=by lia
  have h5:(j.natAbs:Int) < ((2 ^ 1000:Nat):Int):=by
   rw[h4];exact_mod_cast h3
  exact_mod_cast h5
 have h0:j.natAbs≠0:=by have:=hc.1;lia
 have:=(Nat.log2_lt h0).mpr h1;lia
end
section
variable {X:Cx}{st:Stmt}{t:TS}
end
noncomputable def compLook (XN:List Str) (xs:List (Str×NameKind)) (N:List Str) (k:Nat) (is:List Nat) (scope:Scope):Bool :=
 (scope.kind==.function)&&scope.names.all (fun y=>y.2 != .cell)&&scope.names.all (fun y=>y.2 != .local||scope.names.lookup y.1==some .local) &&
 scope.names.all (fun y=>y.2 != .free||(xs.lookup y.1==some .cell||xs.lookup y.1==some .free))&&(N.length==k+is.length) &&
 (List.range is.length).all (fun j=>match is[j]?,N[k+j]? with
  | some i,some x=>XN[i]?==some x&&scope.names.lookup x==some .free
  | _,_=>false)
theorem zeq {X:Cx}{N:List Str}{k:Nat}{is:List Nat}{scope:Scope}(h:compLook X.N X.env.scope.names N k is scope=true):CompScope X N k is scope:=by
 unfold compLook at h;simp only[xdp,xdq] at h;obtain⟨⟨⟨⟨⟨h1,h2⟩,h3⟩,h4⟩,h5⟩,h6⟩:=h;refine⟨eq_of_beq h1,fun y hy e=>?_,fun y hy e=>?_,fun y hy e=>?_,eq_of_beq h5,fun j i e=>?_⟩
 ·have:=h2 y hy;rw[e] at this;simp at this
 ·have:=h3 y hy;rw[e] at this;simp at this;exact this
 ·have:=h4 y hy;rw[e] at this;simp at this;exact this
 ·have hj:j < is.length:=(xbc.mp e).1;have:=h6 j (xcj.mpr hj);rw[e] at this;cases e2:N[k+j]? with
  | none=>rw[e2] at this;cases this
  | some x =>
   rw[e2] at this;simp only[xdp,xft] at this;exact⟨x,rfl,this.1,this.2⟩
theorem zmo:bootBuiltins "len"=some (.builtin "len"):=by decide +kernel
theorem zbix:bootBuiltins "abs"=some (.builtin "abs"):=by decide +kernel
theorem zzj:bootBuiltins "min"=some (.builtin "min"):=by decide +kernel
theorem zbiu:bootBuiltins "max"=some (.builtin "max"):=by decide +kernel
theorem zbit:bootBuiltins "sum"=some (.builtin "sum"):=by decide +kernel
theorem zgq:bootBuiltins "sorted"=some (.builtin "sorted"):=by decide +kernel
theorem zbiv:bootBuiltins "any"=some (.builtin "any"):=by decide +kernel
theorem zbiw:bootBuiltins "all"=some (.builtin "all"):=by decide +kernel
theorem zbh:bootBuiltins "isinstance"=some (.builtin "isinstance"):=by decide +kernel
theorem zbel:bootBuiltins "int"=some (.type "int"):=by decide +kernel
theorem zvv:bootBuiltins "bool"=some (.type "bool"):=by decide +kernel
theorem zgc:bootBuiltins "tuple"=some (.type "tuple"):=by decide +kernel
theorem zwa {H:Hp}{p:Addr}{o:HO}(h:H p=some o):upd H p o=H:=by
 funext b
 unfold upd;split
 ·subst b;exact h.symm
 ·rfl
section
variable {X:Cx}{K:Fg}
end
end L2
namespace Srt
open PySem PySem.W PyProof.Rows
section
variable (r:Nat->Nat)
noncomputable def lt (i j:Nat):Bool:=decide (r i < r j)
noncomputable def At (p:Array Nat) (i:Nat):Nat:=r (p.getD i 0)
noncomputable def Up (p:Array Nat) (n:Nat):Prop:=∀i j,i<=j->j < n->At r p i<=At r p j
end
section
variable {r:Nat->Nat}{p:Array Nat}{n:Nat}
end
section
variable {n:Nat}
end
section
variable {P:Program}{w:World}{B:Around}{E:Value->Shared->Prop}{st:Shared}
noncomputable def midHeap (h:Heap) (d:Addr) (xs:List Value):Heap:=((h.update d (Obj.mapSeq fun _=>(#[]:Array Value))).push (seqObj "tuple" xs.toArray 0)).push (seqObj "list" #[] 0)
theorem ziy {h:Heap}{d b:Addr}{xs:List Value}{ob:Obj}(ne:b≠d)(e:h.get? b=some ob):(midHeap h d xs).get? b=some ob :=
 xbo _ (xbo _ ((Heap.get?_update_ne _ _ _ _ ne).trans e))
noncomputable def Answers (P:Program) (w:World) (B:Around) (r:Nat->Nat) (xs:List Value) (sg:Shared):Prop :=
 ∃κ,(∀R:SortKind->Shared->Prop,R κ sg->wpAny (model P w) B (keyKind' xs.toArray) R (fun _ _=>False) sg) /\
  ∀i j C,i < xs.length->j < xs.length->C (lt r i j) sg->kas_ask P w B κ xs i j C sg
noncomputable def outOf (xs:List Value) (p:Array Nat):Array Value:=List.toArray (p.toList.map fun i=>xs.getD i Value.none)
theorem zso {xs:List Value}(h:xs.length < 2):(xs.toArray.zip xs.toArray).map (·.2)=outOf xs (List.toArray (List.range xs.length)):=by
 unfold outOf
 match xs,h with
 | [],_=>simp
 | [_],_=>simp[xhy]
 | _::_::_,h=>exact absurd h (by simp)
end
end Srt
namespace Srt
open PySem PySem.W PyProof.Rows HT
theorem zhl:∀a:List Int,lexLt a a=false
 | []=>rfl
 | x::a=>by rw[zcz,if_pos rfl];exact zhl a
theorem zgn:∀{a b c:List Int},lexLt a b=true->lexLt b c=true->lexLt a c=true
 | _,[],[],_,h=>by rw[zdx] at h;cases h
 | _,_::_,[],_,h=>by rw[zdk] at h;cases h
 | [],[],_::_,h,_=>by rw[zdx] at h;cases h
 | _::_,[],_::_,h,_=>by rw[zdk] at h;cases h
 | [],_::_,_::_,_,_=>zcj _ _
 | x::a,y::b,z::c,h1,h2=>by
  rw[zcz] at h1 h2 ⊢;by_cases e1:x=y
  ·rw[if_pos e1] at h1;subst e1;by_cases e2:x=z
   ·rw[if_pos e2] at h2 ⊢;exact zgn h1 h2
   ·rw[if_neg e2] at h2 ⊢;exact h2
  ·rw[if_neg e1] at h1;have h1':=xdk h1;by_cases e2:y=z
   ·subst e2;rw[if_neg e1];exact h1
   ·rw[if_neg e2] at h2;have h2':=xdk h2;rw[if_neg (by lia)];exact xcc (by lia)
theorem znr:∀a b:List Int,lexLt a b=true\/a=b\/lexLt b a=true
 | [],[]=>.inr (.inl rfl)
 | [],_::_=>.inl (zcj _ _)
 | _::_,[]=>.inr (.inr (zcj _ _))
 | x::a,y::b=>by
  rw[zcz,zcz];by_cases e:x=y
  ·subst e;rw[if_pos rfl,if_pos rfl];rcases znr a b with h | h | h
   ·exact .inl h
   ·exact .inr (.inl (by rw[h]))
   ·exact .inr (.inr h)
  ·rw[if_neg e,if_neg (fun z=>e z.symm)];rcases Int.lt_or_gt_of_ne e with h | h
   ·exact .inl (xcc h)
   ·exact .inr (.inr (xcc h))
theorem ztn {a b:List Int}(h:lexLt a b=true):lexLt b a=false:=by
 cases e:lexLt b a with
 | false=>rfl
 | true=>have:=zgn h e;rw[zhl] at this;cases this
theorem zrh {p q:Nat->Bool}(hpq:∀x,p x=true->q x=true):∀{l:List Nat} {y:Nat},y∈l->q y=true->p y=false->l.countP p < l.countP q
 | [],_,h,_,_=>nomatch h
 | x::l,y,h,h1,h2=>by
  have mono:∀l:List Nat,l.countP p<=l.countP q:=fun l=>List.countP_mono_left fun x _=>hpq x
  rcases xbr.mp h with rfl | h
  ·rw[xgn h1,xin (by rw[h2];decide)];exact Nat.lt_succ_of_le (mono l)
  ·have ih:=zrh hpq h h1 h2;by_cases c:p x=true
   ·rw[xgn c,xgn (hpq x c)];lia
   ·rw[xin c];by_cases d:q x=true
    ·rw[xgn d];lia
    ·rw[xin d];exact ih
noncomputable def rank (ks:List (List Int)) (i:Nat):Nat:=(List.range ks.length).countP fun k=>lexLt (ks.getD k []) (ks.getD i [])
theorem zqc {ks:List (List Int)}{i j:Nat}(hi:i < ks.length)(hj:j < ks.length):lt (rank ks) i j=lexLt (ks.getD i []) (ks.getD j []):=by
 have up:∀{a b:Nat},a < ks.length->lexLt (ks.getD a []) (ks.getD b [])=true->rank ks a < rank ks b:=fun {a b} ha h =>
  zrh (fun x hx=>zgn hx h) (xcj.mpr ha) h (zhl _)
 cases e:lexLt (ks.getD i []) (ks.getD j []) with
 | true=>exact xcc (up hi e)
 | false =>
  refine xby fun h=>?_
  rcases znr (ks.getD i []) (ks.getD j []) with z | z | z
  ·rw[e] at z;cases z
  ·unfold rank at h;rw[z] at h;exact absurd h (xge _)
  ·have:=up hj z;lia
section
variable {prog:Program}{w:World}{A:Around}{s:Shared}{b:Bool}{Q:Bool->Shared->Prop}
theorem zqv:∀{us ws:List Value} {ns ms:List Int} (i:Nat),IntsAre us ns->IntsAre ws ms->Q (lexLt ns ms) s->KatLex prog w A b (decide (us.length < ws.length)) Q (us.zip ws) i s
 | _,_,_,_,_,.nil,.nil,h=>h
 | _,_,_,_,_,.nil,.cons _ _ _,h=>h
 | _,_,_,_,_,.cons _ _ _,.nil,h=>h
 | _,_,_,_,i,.cons x t (vs:=us) (ns:=ns) r1,.cons y u (vs:=ws) (ns:=ms) r2,h=>by
  rw[zcz] at h;refine kat_cons (wpAny_eqBool_int (kat_go (fun e=>kat_yes ?_) fun e=>kat_no ?_))
  ·rw[if_pos (eq_of_beq e)] at h;have q:=zqv (i+1) r1 r2 h;have ee:decide ((Value.int x t::us).length < (Value.int y u::ws).length)=decide (us.length < ws.length):=by
    rw[xbv,xbv,xfd];simp
   rw[ee];exact q
  ·rw[if_neg (xfp.mp e)] at h;cases hb:(b&&i==0) with
   | true=>exact oneLt_int h
   | false=>exact kat_one _ _ (PyProof.Rows.lt_int h)
end
end Srt
namespace L2
open PySem PySem.Spec PyProof.Rows PySem.W
theorem znc:∀{as:List Addr} {us:List Value},Vals (as.map V.ref) us->us=as.map Value.ref
 | [],_,.nil=>rfl
 | a::as,_,.cons r t=>by
  rw[show _=Value.ref a from r,znc t]
  rfl
noncomputable def TupsAt (K:Fg) (H:Hp) (ps:List (Addr×List Int)):Prop:=∀p∈ps,SqT K H p.1 (p.2.map V.int)
theorem zk {α β:Type}(f:α->β)(d:β){l:List α}{i:Nat}{x:α}(h:l[i]?=some x):(l.map f).getD i d=f x:=by
 rw[xbh,xck,h]
 rfl
section
variable {X:Cx}
end
end L2
namespace L2
open PySem PySem.Spec PyProof.Rows
mutual
inductive DAt (K:Fg) (H:Hp):V->PyData->Prop
 | non:DAt K H .non .none
 | bl (b:Bool):DAt K H (.bl b) (.bool b)
 | int (i:Int):DAt K H (.int i) (.int i)
 | str (x:Str):DAt K H (.str x) (.str x)
 | lst {a:Addr} {xs:List V} {ds:List PyData}:SqL K H a xs->DAll K H xs ds->DAt K H (.ref a) (.list ds)
 | tup {a:Addr} {xs:List V} {ds:List PyData}:SqT K H a xs->DAll K H xs ds->DAt K H (.ref a) (.tuple ds)
inductive DAll (K:Fg) (H:Hp):List V->List PyData->Prop
 | nil:DAll K H [] []
 | cons {x:V} {xs:List V} {d:PyData} {ds:List PyData}:DAt K H x d->DAll K H xs ds->DAll K H (x::xs) (d::ds)
end
section
variable {X:Cx}{aA:List (Addr×Obj)}{σ:St}{H:Hp}{s:Shared}
mutual
theorem zhh (I:Inv X aA σ H s):∀{v:V} {d:PyData} {u:Value},DAt X.K H v d->RelV v u->∃as,Reads s.heap u d as
 | _,_,_,.non,r=>by cases r;exact⟨_,.none⟩
 | _,_,_,.bl b,r=>by cases r;exact⟨_,.bool b⟩
 | _,_,_,.int i,r=>by obtain⟨t,rfl⟩:=r;exact⟨_,.int i t⟩
 | _,_,_,.str x,r=>by obtain⟨t,rfl⟩:=r;exact⟨_,.str x t⟩
 | _,_,_,.lst h all,r=>by
  cases r;obtain⟨its,rv,⟨o,n,e,c,_,dd⟩,_⟩:=I.list h;obtain⟨as,q⟩:=zfv I all rv;exact⟨_,.list e c dd q⟩
 | _,_,_,.tup h all,r=>by
  cases r;obtain⟨its,rv,⟨o,e,c,n,dd⟩,_⟩:=I.tuple h;obtain⟨as,q⟩:=zfv I all rv;exact⟨_,.tuple e c dd q⟩
theorem zfv (I:Inv X aA σ H s):∀{vs:List V} {ds:List PyData} {us:List Value},DAll X.K H vs ds->Vals vs us->∃as,ReadsAll s.heap us ds as
 | _,_,_,.nil,.nil=>⟨_,.nil⟩
 | _,_,_,.cons h t,.cons r rs=>by
  obtain⟨as,q⟩:=zhh I h r;obtain⟨bs,q'⟩:=zfv I t rs;exact⟨_,.cons q q'⟩
end
end
noncomputable def rEqX (K:Fg) (neg:Bool):R2:=fun x y H Q=>∃dx dy,DAt K H x dx/\DAt K H y dy/\PySem.SeqAt.shaped dx=true/\PySem.SeqAt.shaped dy=true/\Q (.bl (if neg then !PyData.eqv dx dy else PyData.eqv dx dy)) H
section
variable {X:Cx}
theorem zxc (hu:X.A.units+64 < cLine):OpR X (compareOp .Eq) (rEqX X.K false):=by
 intro aA s σ H x y v u Q I r1 r2 h;obtain⟨dx,dy,a1,a2,a3,a4,q⟩:=h;obtain⟨as,ra⟩:=zhh I a1 r1;obtain⟨bs,rb⟩:=zhh I a2 r2;exact eq_dataH ra rb a3 a4 hu ⟨.bl (PyData.eqv dx dy),H,I,rfl,q⟩
theorem zbgr (hu:X.A.units+64 < cLine):OpR X (compareOp .NotEq) (rEqX X.K true):=by
 intro aA s σ H x y v u Q I r1 r2 h;obtain⟨dx,dy,a1,a2,a3,a4,q⟩:=h;obtain⟨as,ra⟩:=zhh I a1 r1;obtain⟨bs,rb⟩:=zhh I a2 r2;exact ne_dataH ra rb a3 a4 hu ⟨.bl (!PyData.eqv dx dy),H,I,rfl,q⟩
end
noncomputable def dI (ns:List Int):List PyData:=ns.map PyData.int
noncomputable def dRow (ns:List Int):PyData:=.tuple (dI ns)
theorem zzc:∀a b:List Int,PyData.eqvAll (dI a) (dI b)=decide (a=b)
 | [],[]=>by rfl
 | [],_::_=>by rfl
 | _::_,[]=>by rfl
 | x::a,y::b=>by
  show(x==y&&PyData.eqvAll (dI a) (dI b))=_;rw[zzc a b,xfd];simp
theorem zza (a b:List Int):PyData.eqv (dRow a) (dRow b)=decide (a=b):=zzc a b
theorem zoj:∀a b:List (List Int),PyData.eqvAll (a.map dRow) (b.map dRow)=decide (a=b)
 | [],[]=>by rfl
 | [],_::_=>by rfl
 | _::_,[]=>by rfl
 | x::a,y::b=>by
  show(PyData.eqv (dRow x) (dRow y)&&PyData.eqvAll (a.map dRow) (b.map dRow))=_;rw[zoj a b,zza,xfd];simp
theorem zzb:∀a:List Int,PyData.canLayAll0 (dI a)=true/\PyData.depthAll (dI a)=0
 | []=>⟨rfl,rfl⟩
 | x::a=>by
  obtain⟨h1,h2⟩:=zzb a;refine⟨?_,?_⟩
  ·show(true&&PyData.canLayAll0 (dI a))=true;rw[h1];rfl
  ·show max 0 (PyData.depthAll (dI a))=0;rw[h2];rfl
theorem zjf (a:List Int):PySem.SeqAt.shaped (dRow a)=true:=by
 obtain⟨h1,h2⟩:=zzb a;show(PyData.canLayAll0 (dI a)&&decide (PyData.depthAll (dI a)+1<=64))=true;rw[h1,h2];rfl
theorem zoi:∀a:List (List Int),PyData.canLayAll0 (a.map dRow)=true/\PyData.depthAll (a.map dRow)<=1
 | []=>⟨rfl,xef _⟩
 | x::a=>by
  obtain⟨h1,h2⟩:=zoi a;obtain⟨h3,h4⟩:=zzb x;refine⟨?_,?_⟩
  ·show(PyData.canLayAll0 (dI x)&&PyData.canLayAll0 (a.map dRow))=true;rw[h1,h3];rfl
  ·show max (PyData.depthAll (dI x)+1) (PyData.depthAll (a.map dRow))<=1;rw[h4];lia
theorem zhv (a:List (List Int)):PySem.SeqAt.shaped (.tuple (a.map dRow))=true:=by
 obtain⟨h1,h2⟩:=zoi a;show(PyData.canLayAll0 (a.map dRow)&&decide (PyData.depthAll (a.map dRow)+1<=64))=true;rw[h1,xcc (by lia)];rfl
section
variable {X:Cx}
theorem zkq:∀{bs:List Bool} {us:List Value},Vals (bs.map V.bl) us->us=bs.map Value.bool
 | [],_,.nil=>rfl
 | b::bs,_,.cons r t=>by
  rw[show _=Value.bool b from r,zkq t]
  rfl
theorem zss (bs:List Bool):((List.range bs.length).any fun i=>bs.getD i false)=bs.any id:=by
 rw[xfd];simp only[xkj,xcj];constructor
 ·rintro⟨i,hi,h⟩;rw[xbh,xbe hi] at h;exact⟨bs[i],xem hi,h⟩
 ·rintro⟨b,hb,h⟩;obtain⟨i,hi,rfl⟩:=xdx hb;exact⟨i,hi,by rw[xbh,xbe hi];exact h⟩
theorem zst (bs:List Bool):((List.range bs.length).all fun i=>bs.getD i false)=bs.all id:=by
 rw[xfd];simp only[xdq,xcj];constructor
 ·intro h b hb;obtain⟨i,hi,rfl⟩:=xdx hb;have:=h i hi;rw[xbh,xbe hi] at this;exact this
 ·intro h i hi;rw[xbh,xbe hi];exact h _ (xem hi)
noncomputable def rAny (K:Fg) (al:Bool):List V->Hp->VK->Prop:=fun xs H Q=>∃(l:Addr) (bs:List Bool),xs=[.ref l]/\SqL K H l (bs.map V.bl)/\Q (.bl (if al then bs.all id else bs.any id)) H
theorem zoq {prog:Program}{w:World}{A:Around}(bs:List Bool):TruthOf prog w A (fun i v=>(bs.map Value.bool).toArray[i]?=some v) (fun i=>bs.getD i false):=fun i v s Q E hP hQ=>by
 have hP':(bs.map Value.bool)[i]?=some v:=by simpa using hP
 rw[xck] at hP';cases e:bs[i]? with
 | none=>rw[e] at hP';cases hP'
 | some b =>
  rw[e] at hP';cases hP';dsimp only at hQ;rw[xbh,e] at hQ;exact xeh hQ
theorem zru (hc:X.calm=true){aA:List (Addr×Obj)}{σ:St}{H:Hp}{s:Shared}{l:Addr}{bs:List Bool}{R:Bool->Prop}(I:Inv X aA σ H s)(hl:SqL X.K H l (bs.map V.bl)){Q:Value->Shared->Prop}{F:(Nat->Bool)->Nat->Bool}
  (hQ:∀s',Inv X aA σ H s'->Q (.bool (F (fun i=>bs.getD i false) bs.length)) s') :
  wpAny (model X.prog X.w) X.A.in1 (pyIter (.ref l)) (fun it s₂=>∃I fp wr n P St tr,it=.ref I/\Walks X.prog X.w X.A.in1 I fp wr n P St/\St 0 s₂.heap/\TruthOf X.prog X.w X.A.in1 P tr /\
   ∀h' tk,(∀b o,b∉wr->s₂.heap.get? b=some o->h'.get? b=some o)->Q (.bool (F tr n)) {s₂ with heap:=h',toks:=tk}) X.xe s:=by
 obtain⟨its,rv,pl,hz⟩:=I.list hl;have e:=zkq rv;subst e;have hlt:l < s.heap.objs.size:=by obtain⟨o,n,e,_⟩:=pl;exact xbt e
 refine xke pl.isList ?_;refine⟨s.heap.objs.size,_,[s.heap.objs.size],_,_,_,_,rfl,Walks.list (A:=X.A.in1) (I.ok.hd hc) _ l (xca hlt) (bs.map Value.bool).toArray,⟨⟨_,xce _ rfl,rfl,rfl⟩,pl.isList.push _⟩,zoq bs,fun h' tk hk=>?_⟩;have e2:(bs.map Value.bool).toArray.size=bs.length:=by simp
 rw[e2];refine hQ _ ?_;refine I.kept (t':=tk) fun b o e=>hk b o ?_ (xbo _ e)
 intro z;have z':b=s.heap.objs.size:=by simpa using z
 have z2:=xbt e;rw[z'] at z2;exact absurd z2 (xge _)
theorem zzg (hc:X.calm=true):CallR X (.builtin "any") (rAny X.K false):=by
 intro aA s σ H xs us Q I r h;obtain⟨l,bs,rfl,hl,q⟩:=h;obtain⟨u,rfl,ru⟩:=vals1 r;cases ru;refine call_any_walk (zru (R:=fun _=>True) hc I hl (F:=fun tr n=>(List.range n).any tr) fun s' I'=>⟨.bl ((List.range bs.length).any fun i=>bs.getD i false),H,I',rfl,?_⟩);rw[zss];exact q
theorem zzh (hc:X.calm=true):CallR X (.builtin "all") (rAny X.K true):=by
 intro aA s σ H xs us Q I r h;obtain⟨l,bs,rfl,hl,q⟩:=h;obtain⟨u,rfl,ru⟩:=vals1 r;cases ru;refine call_all_walk (zru (R:=fun _=>True) hc I hl (F:=fun tr n=>(List.range n).all tr) fun s' I'=>⟨.bl ((List.range bs.length).all fun i=>bs.getD i false),H,I',rfl,?_⟩);rw[zst];exact q
end
end L2
namespace Dct
open PySem PySem.W PyProof.Rows
noncomputable def Raw (h:Heap) (d:Addr) (es:Array DictEntry) (ep:Nat):Prop:=∃ob,h.get? d=some ob/\ob.ExactDict/\ob.data=.dict es ep
theorem Raw.kept {h h':Heap}{d:Addr}{es:Array DictEntry}{ep:Nat}(x:Raw h d es ep)(k:∀ob,h.get? d=some ob->h'.get? d=some ob):Raw h' d es ep :=
 let ⟨ob,e,r⟩:=x;⟨ob,k ob e,r⟩
theorem Raw.lt {h:Heap}{d:Addr}{es:Array DictEntry}{ep:Nat}(x:Raw h d es ep):d < h.objs.size:=let ⟨_,e,_⟩:=x;xbt e
theorem Raw.is {st:Shared}{d:Addr}{es:Array DictEntry}{ep:Nat}(x:Raw st.heap d es ep):st.TypeIs (.ref d) "dict":=let ⟨ob, e, c, _⟩:=x; ⟨ob, e, c.1⟩
section
variable {P:Program}{w:World}{B:Around}{E:Value->Shared->Prop}{st:Shared}{d it:Addr}{es:Array DictEntry}{ep k:Nat}
noncomputable def iterObj (d:Addr) (n ep:Nat):Obj:={ cls:=.type "dict_keyiterator", data:=.fields #[.ref d, .int 0 0, .int n 0, .int ep 0] }
theorem zqb {W:Value->Shared->Prop}(ns:(d==sysModules)=false)(x:Raw st.heap d es ep)(fin:W (.ref st.heap.objs.size) {st with heap:=st.heap.push (iterObj d es.size ep)}):wpAny (model P w) B (pyIter (.ref d)) W E st:=by
 obtain⟨ob,e,c,dt⟩:=id x;have ty:=x.is;refine wpAny_pyIter_slot ty F.slot_dict_iter (xfh F.slot_dict_iter ty F.entry_dict_iter ?body (F.args_dict_iter_1 _))
 case body =>
  unfold Builtin.«dict.__iter__» Builtin.Dict.dictSlotNone Builtin.Dict.showsAll;refine xba (xba (wpAny_notOrdered_dict ty (xbl ?_)));show wpAny _ _ ((if(d==sysModules)=true then _ else _) >>= _) _ _ st;rw[if_neg (fun z=>xeq (ns.symm.trans z))];refine xba (xbl (xba (xhg e dt (xba (wpAny_dictEpoch e dt (xba (xfc (xbl ⟨_, rfl, "dict_keyiterator", _,⟨_, xce _ rfl, rfl⟩, xew.lookup, ?_⟩))))))))
  exact fin
theorem zqa {W:Option Value->Shared->Prop}{en:DictEntry}(hi:st.heap.IsKeyIter it d k es.size ep)(x:Raw st.heap d es ep)(hk:es[k]?=some en)
  (fin:∀g:Heap,g.IsKeyIter it d (k+1) es.size ep->Heap.SameBut it st.heap g->W (some en.key) {st with heap:=g}):wpAny (model P w) B (pyNext (.ref it)) W E st:=by
 obtain⟨oi,ei,ci,di⟩:=id hi;obtain⟨ob,e,c,dt⟩:=id x;have lt:k < es.size:=(Array.getElem?_eq_some_iff.mp hk).1;unfold pyNext;refine xba (wpAny_attempt (wpAny_callSpecial?_slot (name:=Str.ofString "__next__") hi.typeIs xew (xfh xew hi.typeIs F.entry_dict_keyiterator_next ?body (F.args_dict_keyiterator_next_1 _))))
 case body =>
  refine xba (xbl (xba (xba (xba (xfm hi.typeIs (xbl (xba (wpAny_fieldsOf ei di ?_))))))));simp only[show Builtin.Dict_items.ownsTuple "dict_keyiterator"=false from by decide, xdg, ite_false]
  show wpAny _ _ (if(Value.ref d==Value.none)=true then _ else _) _ _ st;have nn:¬ (Value.ref d==Value.none)=true:=xeq;rw[if_neg nn];refine xba (xbl (xba (xhg e dt ?_)));rw[if_neg (by simp)];refine xba (xbl (xba (wpAny_dictEpoch e dt ?_)));rw[if_neg (by simp)];refine xbl ?_;simp only[show ¬ ((k:Int) < 0) from by lia,ite_false,xgf,hk];refine xba (xba (xfm hi.typeIs (xbl (xba (wpAny_isOneOf_keyiter hi.typeIs ?_)))));show wpAny _ _ (setField (.ref it) 1 (rawInt ((k:Int)+1)) >>= _) _ _ st;refine xba (xju ei di (by simp) ?_);have hi':(st.heap.update it (Obj.mapFields (·.setIfInBounds 1 (rawInt ((k:Int)+1))))).IsKeyIter it d (k+1) es.size ep :=
   ⟨_,xhi _ ei (Obj.isFreed_of_fields (xif di _)),(Obj.cls_mapFields ..).trans ci,by rw[xif di];simp[rawInt]⟩
  refine xba (xen (xba (wpAny_isOneOf_keyiter (s:={st with heap:=st.heap.update it (Obj.mapFields (·.setIfInBounds 1 (rawInt ((k:Int)+1))))}) hi'.typeIs ?_)));show wpAny _ _ (pure en.key) _ _ _;exact xbl (xbl ⟨_,rfl,xbl (fin _ hi' (xgj ..))⟩)
theorem zur {W:Option Value->Shared->Prop}(hh:B.handled=none)(hi:st.heap.IsKeyIter it d k es.size ep)(x:Raw st.heap d es ep)(hk:es.size<=k)
  (fin:∀g:Heap,Heap.ExtBut it st.heap g->W none {st with heap:=g}):wpAny (model P w) B (pyNext (.ref it)) W E st:=by
 obtain⟨oi,ei,ci,di⟩:=id hi;obtain⟨ob,e,c,dt⟩:=id x;unfold pyNext;refine xba (wpAny_attempt (wpAny_callSpecial?_slot (name:=Str.ofString "__next__") hi.typeIs xew (xfh xew hi.typeIs F.entry_dict_keyiterator_next ?body (F.args_dict_keyiterator_next_1 _))))
 case body =>
  refine xba (xbl (xba (xba (xba (xfm hi.typeIs (xbl (xba (wpAny_fieldsOf ei di ?_))))))));simp only[show Builtin.Dict_items.ownsTuple "dict_keyiterator"=false from by decide, xdg, ite_false]
  show wpAny _ _ (if(Value.ref d==Value.none)=true then _ else _) _ _ st;have nn:¬ (Value.ref d==Value.none)=true:=xeq;rw[if_neg nn];refine xba (xbl (xba (xhg e dt ?_)));rw[if_neg (by simp)];refine xba (xbl (xba (wpAny_dictEpoch e dt ?_)));rw[if_neg (by simp)];refine xbl ?_;simp only[show ¬ ((k:Int) < 0) from by lia,ite_false,xgf,xiz hk];refine xba (xba (xfm hi.typeIs (xbl ?_)));show wpAny _ _ (setField (.ref it) 0 .none >>= _) _ _ st;refine xba (xju ei di (by simp) ?_);show wpAny _ _ (newExc (.type "StopIteration") [] >>= _) _ _ _
  refine xba ?_;simp only[newExc,newTuple];refine xba (xfc (xba (m:=firstArgMember _ _) (wpAny_of_eq (a:=Value.none) (by first | rfl | (simp only[firstArgMember];rfl)) (xfc ?_ (by size_fits)))) (by size_fits));simp only[raiseNew];refine xba (wpAny_handled ?_);rw[show B.in1.handled=none from hh];refine xba (xbl (wpAny_throw ?_));refine xba (wpAny_isInstance (T:="StopIteration") (b:=true) ?_ isSubtype_stop (xbl (fin _ (((xgj ..).extBut.push _).push _))))
  exact⟨_,xce _ rfl,rfl⟩
theorem zsr (hh:B.handled=none)(ne:d≠it)(es:Array DictEntry)(ep:Nat) :
  Walks P w B it [it,d] [it] es.size (fun i v=>∃en,es[i]?=some en/\v=en.key) (fun i h=>h.IsKeyIter it d i es.size ep/\Raw h d es ep) where
 sub:=fun b hb=>xbr.mpr (.inl (xdh.mp hb))
 frame:=fun _ _ _ z hk=>⟨z.1.at fun o e=>hk it xcn o e,z.2.kept fun o e=>hk d (xbm _ (xdh.mpr rfl)) o e⟩
 item:=fun i sh W' E' hi z hQ=>by
  have hx:es[i]?=some es[i]:=xhz hi;exact zqa z.1 z.2 hx fun g a b=>hQ es[i].key g sh.toks ⟨_,hx,rfl⟩ ⟨a,z.2.kept fun o e=>b.extBut d o ne e⟩ fun c o hc e=>b.extBut c o (fun q=>hc (xdh.mpr q)) e
 done:=fun sh W' E' z hQ=>zur hh z.1 z.2 (xbg _) fun g b=>hQ g sh.toks fun c o hc e=>b c o (fun q=>hc (xdh.mpr q)) e
 self:=fun _ _ _ _ z hQ=>wpAny_pyIter_keyiter z.1 hQ
theorem zbat (ns:(d==sysModules)=false)(es:Array DictEntry)(ep:Nat):KdlSrc P w "dict" d d es.size (fun i v=>∃ en, es[i]?=some en/\v=en.key) (fun h=>Raw h d es ep) where
 type:=fun _ x=>x.is
 there:=fun _ x=>⟨x.lt,x.lt⟩
 keep:=fun _ _ x hk=>x.kept fun o e=>hk d (.inl rfl) o e
 notList:=by decide
 notTuple:=by decide
 hint:=fun _ _ _ _ x hq=>kdl_hint_dict x.is hq
 iter:=fun _ sh hh x=>⟨_,_,fun _ _ hq=>zqb ns x hq,zsr hh (xca x.lt) es ep,⟨⟨_,xce _ rfl,rfl,rfl⟩,x.kept fun o e=>xbo _ e⟩⟩
end
end Dct
namespace Srt
open PySem PySem.W PyProof.Rows
section
variable {P:Program}{w:World}{B:Around}{E:Value->Shared->Prop}{st:Shared}
end
end Srt
namespace L2
open PySem PySem.Spec PyProof.Rows
theorem ObjOk.ob {P:Program}{w:World}{H:Hp}{h:Heap}{a:Addr}{o:HO}(x:ObjOk P w H h a o):∃ob,h.get? a=some ob:=by
 cases o with
 | lst xs=>obtain⟨_,_,_,_,e⟩:=x;exact⟨_,e⟩
 | tup xs=>obtain⟨_,_,_,ob,e,_⟩:=x;exact⟨_,e⟩
 | dK kvs=>obtain⟨_,_,_,_,ob,_,_,e,_⟩:=x;exact⟨_,e⟩
 | dT kvs=>obtain⟨_,_,_,_,ob,_,_,e,_⟩:=x;exact⟨_,e⟩
 | set S n=>obtain⟨ob,_,_,_,e,_⟩:=x;exact⟨_,e⟩
 | ins C dx fs=>obtain⟨_,_,_,e,_⟩:=x;exact⟨_,e⟩
 | own y=>obtain⟨_,e⟩:=x;exact⟨_,e⟩
 | xd fs=>obtain⟨_,⟨_,_,_,e,_⟩,_⟩:=x;exact⟨_,e⟩
 | rng lo hi=>obtain⟨_,_,_,e⟩:=x;exact⟨_,e⟩
 | frz ob u=>obtain⟨e,_⟩:=x;exact⟨_,e⟩
 | tbl ps=>exact⟨_,(show h.get? a=some _ from x)⟩
 | met f y=>exact⟨_,(show h.get? a=some _ from x)⟩
 | ext φ=>obtain⟨_,⟨_,e⟩,_⟩:=x;exact⟨_,e⟩
section
variable {X:Cx}{aA:List (Addr×Obj)}{σ:St}{H:Hp}{s:Shared}
theorem Inv.away (I:Inv X aA σ H s){q:Addr}(ne:∀b ob,s.heap.get? b=some ob->b≠q):H q=none:=by
 cases e:H q with
 | none=>rfl
 | some o =>
  obtain⟨ob,z⟩:=(I.hok q o e).ob;exact absurd rfl (ne q ob z)
theorem Inv.laidN {q:Addr}{o:HO}{g:Heap}{t':Nat}(I:Inv X aA σ H s)(k:∀b u,s.heap.get? b=some u->g.get? b=some u)(ne:∀b ob,s.heap.get? b=some ob->b≠q)(new:ObjOk X.prog X.w (upd H q o) g q o) :
  Inv X aA σ (upd H q o) {s with heap:=g,toks:=t'}:=by
 have hn:=I.away ne;have off:∀{b:Addr} {u:HO},H b=some u->upd H q o b=some u:=fun {b u} e=>by rw[zv (zl e hn)];exact e
 refine I.un ⟨fun b u e _ _ _=>k b u e,fun b u e _ _ _=>⟨u.slots,k b u e⟩,fun b u e n _=>by rw[zv (ne b u e)];exact n,fun b u e _=>⟨u,k b u e⟩,fun b xs e=>off e,fun b ob u e=>off e,fun b ps e=>⟨#[],by rw[off e];simp⟩⟩ fun b u e=>?_
 by_cases hb:b=q
 ·subst hb;rw[zx] at e;cases e;exact new
 ·rw[zv hb] at e;exact(I.hok b u e).stay (fun c v _ z=>k c v z) (fun c z=>off z) fun c xs z=>off z
end
theorem zvi (ns:List Int):(ns.map (Sum.inl:Int->Key)).map kV=ns.map V.int:=by rw[xdr];rfl
theorem zlf {P:Program}{w:World}{H:Hp}{kvs:List (List Key×V)}:∀{ks:List (List Int)} {xs:List (List Key×Addr×Value)},
  Paired (fun(p:List Key×V) (q:List Key×Addr×Value)=>p.1=q.1/\H q.2.1=some (.tup (p.1.map kV))/\RelV p.2 q.2.2) kvs xs->kvs.map (·.1)=ks.map (fun ns=>ns.map Sum.inl) ->
   ∃ps:List (Addr×List Int),ps.map (·.2)=ks/\(∀p∈ps,H p.1=some (.tup (p.2.map V.int)))/\xs.map (fun q=>(entryOfKey (tupleKind (mixKind P w)) q).key)=ps.map fun p=>Value.ref p.1:=by
 induction kvs with
 | nil =>
  intro ks xs r e;cases r;cases ks with
  | nil=>exact⟨[],rfl,fun p hp=>(nomatch hp),rfl⟩
  | cons x ks=>cases e
 | cons kv kvs ih =>
  intro ks xs r e;cases r with
  | cons r rs =>
   cases ks with
   | nil=>cases e
   | cons ns ks =>
    rw[xbq,xbq] at e;injection e with e1 e2
    obtain⟨ps,a1,a2,a3⟩:=ih rs e2;rename_i b _;obtain⟨r1,r2,r3⟩:=r;refine⟨(b.2.1,ns)::ps,by rw[xbq,a1],fun p hp=>?_,by rw[xbq,xbq,a3];rfl⟩;rcases xbr.mp hp with z | z
    ·subst z;rw[e1,zvi] at r2;exact r2
    ·exact a2 p z
open PySem.W in
theorem zzn {P:Program}{w:World}{B:Around}{sg:Shared}{ps:List (Addr×List Int)}(h2:2<=ps.length)
  (tup:∀(i:Nat) (p:Addr×List Int), ps[i]?=some p->∃(us:List Value) (o:Obj) (n:Nat), IntsAre us p.2/\sg.heap.get? p.1=some o/\o.cls=.type "tuple"/\o.data=.seq us.toArray n/\p.2≠[]) :
  Srt.Answers P w B (Srt.rank (ps.map (·.2))) (ps.map fun p=>Value.ref p.1) sg:=by
 refine⟨tuples' true,fun R hq=>?_,fun i j C hi hj hC=>?_⟩
 ·have kt:∀(l:List (Addr×List Int)),(∀p∈l,∃i:Nat,ps[i]?=some p)->∃fs:List Value,KatTups sg.heap (l.map fun p=>Value.ref p.1) fs/\fs.length=l.length/\∀v∈fs,∃i t,v=Value.int i t:=fun l=>by
   induction l with
   | nil=>intro _;exact⟨[],KatTups.nil,rfl,fun v hv=>(nomatch hv)⟩
   | cons p l ih =>
    intro hp;obtain⟨fs,b1,b2,b3⟩:=ih fun p' hp'=>hp p' (xbm _ hp')
    obtain⟨i,hi⟩:=hp p xcn;obtain⟨us,o,n,a1,a2,a3,a4,a5⟩:=tup i p hi;obtain⟨pa,pn⟩:=p;dsimp only at a1 a2 a3 a4 a5;cases a1 with
    | nil=>exact absurd rfl a5
    | cons x t r=>exact⟨Value.int x t::fs,KatTups.cons a2 a3 a4 rfl b1,by rw[xbv,xbv,b2],fun v hv=>(xbr.mp hv).elim (fun z=>⟨x,t,z⟩) (b3 v)⟩
  obtain⟨fs,b1,b2,b3⟩:=kt ps fun p hp=>List.mem_iff_getElem?.mp hp
  exact kat_kind (T:=.type "int") b1 (by lia) (fun v hv=>by
   obtain⟨i,t,rfl⟩:=b3 v hv
   exact Looks.of_pure rfl) rfl hq
 ·rw[xbd] at hi hj;have ei:ps[i]?=some ps[i]:=xbe hi;have ej:ps[j]?=some ps[j]:=xbe hj;obtain⟨us,o,n,a1,a2,a3,a4,a5⟩:=tup i _ ei;obtain⟨us2,o2,n2,c1,c2,c3,c4,c5⟩:=tup j _ ej;unfold kas_ask;rw[zk (fun p:Addr×List Int=>Value.ref p.1) _ ei,zk (fun p:Addr×List Int=>Value.ref p.1) _ ej];refine kat_lt a2 a4 c2 c4 (Srt.zqv 0 a1 c1 ?_);rw[Srt.zqc (by rw[xbd];exact hi) (by rw[xbd];exact hj),zk (fun p:Addr×List Int=>p.2) _ ei,zk (fun p:Addr×List Int=>p.2) _ ej] at hC;exact hC
theorem zqh {ps:List (Addr×List Int)}{p:Array Nat}(p1:p.Perm (List.toArray (List.range ps.length)))(p2:Srt.Up (Srt.rank (ps.map (·.2))) p ps.length) :
  ∃qs:List (Addr×List Int),qs.Perm ps/\(qs.map (·.2)).Pairwise (fun x y=>HT.lexLt y x=false)/\Srt.outOf (ps.map fun p=>Value.ref p.1) p=(qs.map fun p=>Value.ref p.1).toArray:=by
 have hps:p.size=ps.length:=by rw[p1.size_eq];simp
 have sm:∀i∈p.toList,i < ps.length:=fun i hi=>by
  have h3:=(p1.mem_iff (a:=i)).mp (by rw[← Array.mem_toList_iff];exact hi);exact xcj.mp (List.mem_toArray.mp h3)
 refine⟨p.toList.map fun i=>ps.getD i (0,[]),?_,?_,?_⟩
 ·have e1:p.toList.Perm (List.range ps.length):=by
   have:=xff.mp p1
   simpa using this
  have e2:=e1.map fun i=>ps.getD i (0,[])
  have e3:((List.range ps.length).map fun i=>ps.getD i (0,[]))=ps:=by
   apply List.ext_getElem
   ·simp
   ·intro i h1 h2;simp[xbh,h2]
  rw[e3] at e2;exact e2
 ·rw[xdr,xia];intro i j hi hj hij;rw[List.getElem_map,List.getElem_map];rw[xbd] at hi hj;have hi':i < p.size:=by simpa using hi
  have hj':j < p.size:=by simpa using hj
  have hu:=p2 i j (xbu hij) (by lia);have g:∀k,(hk:k < p.toList.length)->p.getD k 0=p.toList[k]:=fun k hk=>by
   have hk':k < p.size:=by simpa using hk
   rw[Array.getD_eq_getD_getElem?,xhz hk'];simp
  have si:=sm _ (xem hi);have sj:=sm _ (xem hj);have lk:=Srt.zqc (ks:=ps.map (·.2)) (i:=p.toList[j]) (j:=p.toList[i]) (by rw[xbd];exact sj) (by rw[xbd];exact si);have hno:Srt.lt (Srt.rank (ps.map (·.2))) p.toList[j] p.toList[i]=false:=by
   refine xby fun z=>?_
   unfold Srt.At at hu;rw[g i hi,g j hj] at hu;lia
  rw[hno] at lk;have v:∀k,k < ps.length->(ps.map (·.2)).getD k []=(ps.getD k (0,[])).2:=fun k hk=>by
   have ek:ps[k]?=some ps[k]:=xbe hk;rw[zk (fun p:Addr×List Int=>p.2) _ ek,xbh,ek]
   rfl
  rw[v _ sj,v _ si] at lk;exact lk.symm
 ·unfold Srt.outOf;rw[xdr]
  congr 1
  refine xfe fun i hi=>?_
  have hi2:=sm i hi;have ei:ps[i]?=some ps[i]:=xbe hi2;rw[zk (fun p:Addr×List Int=>Value.ref p.1) _ ei];show _=Value.ref (ps.getD i (0,[])).1;rw[xbh,ei]
  rfl
section
variable {X:Cx}
end
section
variable {X:Cx}{aA:List (Addr×Obj)}{σ:St}{H:Hp}{s:Shared}
theorem Inv.freeze {a:Addr}{kvs:List (List Key×V)}{ob:Obj}(I:Inv X aA σ H s)(h:H a=some (.dT kvs))(e:s.heap.get? a=some ob):Inv X aA σ (upd H a (.frz ob (.dT kvs))) s:=by
 have off:∀{b:Addr} {u:HO},H b=some u->(∀l,u≠.dT l)->upd H a (.frz ob (.dT kvs)) b=some u:=fun {b u} q n=>by
  rw[zv (by rintro rfl;rw[h] at q;cases q;exact n _ rfl)];exact q
 have z:=I.un (h':=s.heap) (t':=s.toks) (H':=upd H a (.frz ob (.dT kvs))) ⟨fun b u q _ _ _=>q,fun b u q _ _ _=>⟨u.slots,q⟩,fun b u q n _=>by
   rw[zv (by rintro rfl;rw[h] at n;cases n)];exact n,fun b u q _=>⟨u,q⟩,fun b xs q=>off q (fun l z=>by cases z),fun b o u q=>off q (fun l z=>by cases z),fun b ps q=>⟨#[],by rw[off q (fun l z=>by cases z)];simp⟩⟩ (fun b u q=>by
   by_cases hb:b=a
   ·subst hb;rw[zx] at q;cases q;exact⟨e,(I.hok b _ h).stay (fun c v _ r=>r) (fun c r=>off r (fun l z=>by cases z)) fun c xs r=>off r (fun l z=>by cases z)⟩
   ·rw[zv hb] at q
    exact(I.hok b u q).stay (fun c v _ r=>r) (fun c r=>off r (fun l z=>by cases z)) fun c xs r=>off r (fun l z=>by cases z))
 exact z
end
noncomputable def Itd (a:Addr) (ob:Obj) (kvs:List (List Key×V)) (ps:List (Addr×List Int)):It :=
 ⟨fun i H=>i < ps.length/\H a=some (.frz ob (.dT kvs)),fun i H x H'=>H'=H/\∃p,ps[i]?=some p/\x=.ref p.1,fun i H=>ps.length<=i/\H a=some (.frz ob (.dT kvs))⟩
theorem zsl {P:Program}{w:World}{K:Fg}{tg:Expr}{a it:Addr}{ob:Obj}{kvs:List (List Key×V)}{ps:List (Addr×List Int)}{es:Array DictEntry}{ep:Nat}(ex:ob.ExactDict)(dt:ob.data=.dict es ep)
  (hk:es.toList.map (·.key)=ps.map fun p=>Value.ref p.1):Turn P w K tg (Itd a ob kvs ps) [it] it (fun i h=>h.IsKeyIter it a i es.size ep) where
 mem:=xdh.mpr rfl
 obj:=fun i h st b hb=>by
  have e:b=it:=xdh.mp hb;subst e;obtain⟨o,e,c,d⟩:=st;exact⟨o,e,fun v z=>by rw[d] at z;cases z⟩
 keep:=fun i h h' st k=>st.at fun o e=>k it (xdh.mpr rfl) o e
 item:=by
  intro Y hP hw hK hc i aA s σ H E I hf st hg;subst hP hw hK;obtain⟨hi,hz⟩:=hg;have hsz:es.size=ps.length:=by
   have:=congrArg List.length hk
   rwa [xbd,xbd,xcd] at this
  obtain⟨eo,_⟩:=(show ObjOk Y.prog Y.w H s.heap a (.frz ob (.dT kvs)) from I.hok a _ hz)
  obtain⟨f0,f1,f2,f3,f4,f5⟩:=hf it (xdh.mpr rfl);have hen:es[i]?=some es[i]:=xhz (by lia);have hpi:ps[i]?=some ps[i]:=xbe hi;have hkey:es[i].key=Value.ref ps[i].1:=by
   have q:=congrArg (fun l=>l[i]?) hk;simp only[xck,xcl,hen,hpi] at q;exact xcp q
  refine Dct.zqa st ⟨ob,eo,ex,dt⟩ hen fun g st' sb=>?_
  have I1:Inv Y aA σ H {s with heap:=g}:=I.turned (t':=s.toks) (fun b o hb e=>sb.extBut b o hb e) f0 f1 f3 f4 f5;obtain⟨o,e,c,d⟩:=id st';exact⟨_,rfl,zbfd (s:={s with heap:=g}) e c d (by decide) ⟨.ref ps[i].1,H,I1,hkey,⟨rfl,ps[i],hpi,rfl⟩,st',fun b hb=>(hf b hb).1⟩⟩
 done:=by
  intro Y hP hw hK hc i aA s σ H E I hf st hg;subst hP hw hK;obtain⟨hi,hz⟩:=hg;have hsz:es.size=ps.length:=by
   have:=congrArg List.length hk
   rwa [xbd,xbd,xcd] at this
  obtain⟨eo,_⟩:=(show ObjOk Y.prog Y.w H s.heap a (.frz ob (.dT kvs)) from I.hok a _ hz)
  obtain⟨f0,f1,f2,f3,f4,f5⟩:=hf it (xdh.mpr rfl);exact Dct.zur (I.ok.hd hc) st ⟨ob,eo,ex,dt⟩ (by lia) fun g eb=>⟨rfl,I.turned (t':=s.toks) (fun b o hb e=>eb b o hb e) f0 f1 f3 f4 f5⟩
 self:=fun _ _ _ _ _ st h=>wpAny_pyIter_keyiter st h
noncomputable def iDct (td:TE):TI:=fun σ H R=>td σ H fun x H1=>∃(a:Addr) (kvs:List (List Key×V)) (ks:List (List Int)),x=.ref a/\H1 a=some (.dT kvs)/\kvs.map (·.1)=ks.map (fun ns=>ns.map Sum.inl) /\
 ∀(ob:Obj) (ps:List (Addr×List Int)),ps.map (·.2)=ks->(∀p∈ps,H1 p.1=some (.tup (p.2.map V.int)))->R (Itd a ob kvs ps) (upd H1 a (.frz ob (.dT kvs)))
theorem zbbj {X:Cx}{tg l:Expr}{td:TE}(hl:PE X l td):PI X tg l (iDct td):=by
 intro aA s σ H R I h;refine thn (hl aA s σ H _ I h) fun v s1 hq0=>?_
 obtain⟨x,H1,I1,r1,q1⟩:=hq0;obtain⟨a,kvs,ks,rfl,hd,ek,q⟩:=q1;cases r1;obtain⟨z,ns,ys,rel,ob,es,ep,e1,e2,e3,e4,e5⟩:=(show ObjOk X.prog X.w H1 s1.heap a (.dT kvs) from I1.hok a _ hd)
 obtain⟨ps,a1,a2,a3⟩:=zlf (P:=X.prog) (w:=X.w) rel ek;have hes:es.toList.map (·.key)=ps.map fun p=>Value.ref p.1:=by rw[e4,xdr];exact a3
 refine Dct.zqb ns ⟨ob,e1,e2,e3⟩ ?_;have I2:=I1.freeze hd e1;refine⟨s1.heap.objs.size,[s1.heap.objs.size],_,_,_,rfl,I2.kept (t':=s1.toks) fun b o e=>xbo _ e,zsl e2 e3 hes,⟨_,xce _ rfl,rfl,rfl⟩,fun b hb=>?_,q ob ps a1 a2⟩;have e:b=s1.heap.objs.size:=xdh.mp hb;subst e;exact I2.fpOk (xbg _) (I2.hok.fresh (xbg _))
section
variable {g:TG}{tc:TT}{te:TE}{Q:VK}{σ:St}{H:Hp}{p:Addr}
end
end L2
namespace L2
open PySem PySem.Spec PyProof.Rows PySem.W
noncomputable def TupsG (g:Heap) (ps:List (Addr×List Int)):Prop:=∀ p∈ps, ∃(us:List Value) (o:Obj) (n:Nat), IntsAre us p.2/\g.get? p.1=some o/\o.cls=.type "tuple"/\o.data=.seq us.toArray n
section
variable {P:Program}{w:World}{B:Around}{E:Value->Shared->Prop}{sg:Shared}
theorem znz:∀{ps:List (Addr×List Int)},TupsG sg.heap ps->∃fs:List (Option Value),fs.map Option.isSome=ps.map (fun p=>!p.2.isEmpty)/\∀(W:List (Option Value)->Shared->Prop),W fs sg->wpAny (model P w) B ((ps.map fun p=>Value.ref p.1).mapM firstOfTuple') W E sg
 | [],_=>⟨[],rfl,fun W h=>by rw[xki,List.mapM_nil];exact xbl h⟩
 | p::ps,h=>by
  obtain⟨fs,f1,f2⟩:=znz (ps:=ps) fun q hq=>h q (xbm _ hq)
  obtain⟨us,o,n,a1,a2,a3,a4⟩:=h p xcn;refine⟨us.toArray[0]?::fs,?_,fun W hW=>?_⟩
  ·rw[xbq,xbq,f1]
   congr 1
   obtain⟨pa,pn⟩:=p;dsimp only at a1 ⊢;cases a1 with
   | nil=>rfl
   | cons x t r=>rfl
  ·rw[xbq,List.mapM_cons];have ty:Looks (model P w) sg.heap (typeOf (.ref p.1)) o.cls:=(Looks.ld a2).andThen .now;refine xba ?_;rw[kas_first_eq];refine xba (Looks.here ty ?_);rw[a3,if_neg (by first | decide | simp)];exact xba (listItems_at a2 a4 (xbl (xba (f2 _ (xbl hW)))))
theorem zqu (x y:Value):keyLt' general' x y=oneLt' false x y:=rfl
theorem zzm {κ:SortKind}(hκ:κ=general'\/κ=oneType')(hu:B.units < cLine){a b:Addr×List Int}(ha:TupsG sg.heap [a])(hb:TupsG sg.heap [b]){C:Bool->Shared->Prop}(hC:C (HT.lexLt a.2 b.2) sg) :
  wpAny (model P w) B (keyLt' κ (.ref a.1) (.ref b.1)) C E sg:=by
 obtain⟨us,o,n,a1,a2,a3,a4⟩:=ha a xcn;obtain⟨us2,o2,n2,b1,b2,b3,b4⟩:=hb b xcn;rcases hκ with rfl | rfl
 ·rw[zqu];exact kat_one _ _ (HT.zkz (items:=us.toArray) (items2:=us2.toArray) ⟨o,a2,a3,n,a4⟩ ⟨o2,b2,b3,n2,b4⟩ a1 b1 hu hC)
 ·rw[keyLt'_oneType,oneLt'_eq];simp only[ite_true];refine xba (wpAny_cRoomFor hu (xba (wpAny_callSpecialIfBound?_slot (T:="tuple") ⟨o, a2, a3⟩ xjf ?_)))
  obtain⟨cls,dd,data,sl⟩:=o;obtain⟨cls2,dd2,data2,sl2⟩:=o2;dsimp only at a3 a4 b3 b4;subst a3 a4 b3 b4;exact call_meets xjf ⟨_,a2,rfl⟩ F.entry_tuple_lt (F.args_tuple_lt_2 _ _) (HT.zgd a.1 b.1 us.toArray us2.toArray n n2 dd dd2 sl sl2 a.2 b.2 a1 b1) ⟨a2,b2,xeh hC⟩
theorem zzo {ps:List (Addr×List Int)}(hu:B.units < cLine)(tup:TupsG sg.heap ps)(emp:∃p∈ps,p.2=[]):Srt.Answers P w B (Srt.rank (ps.map (·.2))) (ps.map fun p=>Value.ref p.1) sg:=by
 obtain⟨fs,f1,f2⟩:=znz (P:=P) (w:=w) (B:=B) (E:=fun _ _=>False) tup;have notAll:¬ (fs.toArray.all fun x=>x.isSome)=true:=fun z=>by
  have z':fs.all (fun x=>x.isSome)=true:=by simpa using z
  obtain⟨p,hp,he⟩:=emp;have m:(!p.2.isEmpty)∈fs.map Option.isSome:=by rw[f1];exact List.mem_map_of_mem (f:=fun p:Addr×List Int=>!p.2.isEmpty) hp
  obtain⟨o,ho,e⟩:=xcb.mp m;have:=xdq.mp z' o ho;rw[e,he] at this;cases this
 have cmp:∀{κ:SortKind},κ=general'\/κ=oneType'->∀i j C,i < (ps.map fun p=>Value.ref p.1).length->j < (ps.map fun p=>Value.ref p.1).length->C (Srt.lt (Srt.rank (ps.map (·.2))) i j) sg->kas_ask P w B κ (ps.map fun p=>Value.ref p.1) i j C sg:=fun {κ} hκ i j C hi hj hC=>by
  rw[xbd] at hi hj;have ei:ps[i]?=some ps[i]:=xbe hi;have ej:ps[j]?=some ps[j]:=xbe hj;unfold kas_ask;rw[zk (fun p:Addr×List Int=>Value.ref p.1) _ ei,zk (fun p:Addr×List Int=>Value.ref p.1) _ ej];rw[Srt.zqc (by rw[xbd];exact hi) (by rw[xbd];exact hj),zk (fun p:Addr×List Int=>p.2) _ ei,zk (fun p:Addr×List Int=>p.2) _ ej] at hC;have one:∀k,(hk:k < ps.length)->TupsG sg.heap [ps[k]]:=fun k hk q hq=>by
   rw[xdh.mp hq];exact tup _ (xem hk)
  exact zzm hκ hu (one i hi) (one j hj) hC
 by_cases fst:(fs.toArray[0]?.bind id).isSome=true
 ·refine⟨general',fun R hR=>?_,cmp (.inl rfl)⟩;rw[kat_kind_eq,xkc,xkr];refine xba (xba (f2 _ (xbl ?_)));rw[if_neg notAll,if_pos fst];exact xbl hR
 ·refine⟨oneType',fun R hR=>?_,cmp (.inr rfl)⟩;rw[kat_kind_eq,xkc,xkr];refine xba (xba (f2 _ (xbl ?_)));rw[if_neg notAll,if_neg fst,oneTypeOnly'_eq,xkc,xkr];have ty:∀ v∈(ps.map fun p=>Value.ref p.1), ∀ W:Value->Shared->Prop, W (.type "tuple") sg->wpAny (model P w) B (typeOf v) W (fun _ _=>False) sg:=fun v hv W hW=>by
   obtain⟨p,hp,rfl⟩:=xcb.mp hv;obtain⟨us,o,n,a1,a2,a3,a4⟩:=tup p hp;have lk:Looks (model P w) sg.heap (typeOf (.ref p.1)) o.cls:=(Looks.ld a2).andThen .now;rw[a3] at lk;exact lk.here hW
  refine xba (xba (xba (kas_mapM (r:=Value.type "tuple") _ ty (xbl ?_))))
  obtain⟨p,hp,_⟩:=emp;obtain⟨p0,rest,rfl⟩:∃p0 rest,ps=p0::rest:=by
   cases ps with
   | nil=>exact nomatch hp
   | cons p0 rest=>exact⟨p0,rest,rfl⟩
  have all:((List.map (fun _=>Value.type "tuple") ((p0::rest).map fun p=>Value.ref p.1)).toArray.all fun x=>x==Value.type "tuple")=true:=by
   rw[List.all_toArray,xdq];intro x hx;obtain⟨_,_,rfl⟩:=xcb.mp hx
   rfl
  have zero:(List.map (fun _=>Value.type "tuple") ((p0::rest).map fun p=>Value.ref p.1)).toArray[0]?=some (Value.type "tuple"):=by simp
  rw[zero];simp only[all,ite_true];exact xbl (xbl hR)
theorem zvw {ps:List (Addr×List Int)}(hu:B.units < cLine)(h2:2<=ps.length)(tup:TupsG sg.heap ps):Srt.Answers P w B (Srt.rank (ps.map (·.2))) (ps.map fun p=>Value.ref p.1) sg:=by
 by_cases c:∃p∈ps,p.2=[]
 ·exact zzo hu tup c
 ·refine zzn h2 fun i p hi=>?_
  have hp:=xbs hi;obtain⟨us,o,n,a1,a2,a3,a4⟩:=tup p hp;exact⟨us,o,n,a1,a2,a3,a4,fun z=>c ⟨p,hp,z⟩⟩
end
theorem zgt (z:List (Addr×List Int)):Vals (z.map fun p=>V.ref p.1) (z.map fun p=>Value.ref p.1):=by
 induction z with
 | nil=>exact .nil
 | cons x z ih=>exact .cons rfl ih
section
variable {X:Cx}
end
end L2
namespace TS
open PySem PyProof.Rows
noncomputable def kA (R:Keyed->Nat) (xs:Array Keyed) (i:Nat):Nat:=match xs[i]? with
 | some p=>R p
 | none=>0
theorem zdl {R:Keyed->Nat}{xs ys:Array Keyed}{i j:Nat}(h:xs[i]?=ys[j]?):kA R xs i=kA R ys j:=by unfold kA;rw[h]
theorem zds {R:Keyed->Nat}{xs:Array Keyed}{i:Nat}{x:Keyed}(h:xs[i]?=some x):kA R xs i=R x:=by unfold kA;rw[h]
noncomputable def UpA (R:Keyed->Nat) (xs:Array Keyed) (a b:Nat):Prop:=∀i j,a<=i->i<=j->j < b->kA R xs i<=kA R xs j
noncomputable def DnA (R:Keyed->Nat) (xs:Array Keyed) (a b:Nat):Prop:=∀i j,a<=i->i<=j->j < b->kA R xs j<=kA R xs i
section
variable {prog:Program}{w:World}{A:Around}{E:Value->Shared->Prop}{s:Shared}{κ:SortKind}{a₀:Array Keyed}{R:Keyed->Nat}
noncomputable def Orc (prog:Program) (w:World) (A:Around) (s:Shared) (κ:SortKind) (a₀:Array Keyed) (R:Keyed->Nat):Prop :=
 ∀x,x∈a₀.toList->∀y,y∈a₀.toList->∀(C:Bool->Shared->Prop),C (decide (R x < R y)) s->wpAny (model prog w) A (keyLt' κ x.1 y.1) C (fun _ _=>False) s
structure B (κ:SortKind) (a₀:Array Keyed) (st:SortSt):Prop where
 perm:(arrOf st).Perm a₀
 kind:kindOf st=κ
 failed:failedOf st=none
theorem B.size {st:SortSt}(h:B κ a₀ st):(arrOf st).size=a₀.size:=h.perm.size_eq
theorem B.set {st:SortSt}(h:B κ a₀ st){xs:Array Keyed}(hp:xs.Perm (arrOf st)):B κ a₀ (setArr st xs):=⟨hp.trans h.perm,h.kind,h.failed⟩
theorem B.mem {st:SortSt}(h:B κ a₀ st){i:Nat}(hi:i < a₀.size):∃x,(arrOf st)[i]?=some x/\x∈a₀.toList:=by
 have hi':i < (arrOf st).size:=by rw[h.size];exact hi
 exact⟨_,getElem?_pos _ i hi',(xff.mp h.perm).mem_iff.mp (by simp)⟩
theorem w_lt {x y:Keyed}{st:SortSt}{Q:Option Bool->SortSt->Prop}(O:Orc prog w A s κ a₀ R)(hk:kindOf st=κ)(hx:x∈a₀.toList)(hy:y∈a₀.toList)(h:Q (some (decide (R x < R y))) st):wpS (model prog w) A E s (lt' x y) Q st:=by
 rw[lt'_eq];refine xbj (xgt ?_);rw[hk];refine xbj (xje (wpAny_attempt (xdz (O x hx y hy (fun b s'=>s'=s/\b=decide (R x < R y)) ⟨rfl,rfl⟩) (fun b s' hb=>?_) fun _ _ f=>f.elim)));obtain⟨rfl,rfl⟩:=hb;exact⟨rfl,xbn h⟩
theorem zko {arr:Array Keyed}{i:Nat}{x:Keyed}{st:SortSt}{Q:Keyed->SortSt->Prop}(e:arr[i]?=some x)(h:Q x st):wpS (model prog w) A E s (elem' arr i) Q st:=by
 rw[elem'_eq,e];exact xbn h
theorem zll {i j:Nat}{st:SortSt}{Q:Option Bool->SortSt->Prop}(O:Orc prog w A s κ a₀ R)(b:B κ a₀ st)(hi:i < a₀.size)(hj:j < a₀.size)(h:Q (some (decide (kA R (arrOf st) i < kA R (arrOf st) j))) st):wpS (model prog w) A E s (ltAt' i j) Q st:=by
 obtain⟨x,e1,m1⟩:=b.mem hi;obtain⟨y,e2,m2⟩:=b.mem hj;rw[zds e1,zds e2] at h;rw[ltAt'_eq];exact xbj (xgt (xbj (zko e1 (xbj (zko e2 (w_lt O b.kind m1 m2 h))))))
theorem zse {i j:Nat}{st:SortSt}{Q:Unit->SortSt->Prop}(h:Q () (setArr st (mirror (arrOf st) i j ((j - i) / 2)))):wpS (model prog w) A E s (reverseSlice' i j) Q st:=by
 rw[reverseSlice'_eq];exact xfu h
theorem zbfg {i j:Nat}{st:SortSt}{Q:Unit->SortSt->Prop}(h:Q () (setArr st (bubble (arrOf st) i (i - j)))):wpS (model prog w) A E s (moveDown' i j) Q st:=by
 rw[moveDown'_eq];exact xfu h
theorem zzu {lo x n N:Nat}(h:x < n)(hn:lo+n<=N):lo+x < N:=xbk (xdy h lo) hn
theorem zzt {lo x n N:Nat}(h:x < n)(hn:lo+n<=N):lo+x - 1 < N:=xcx (xfr _ _) (zzu h hn)
theorem zqw {lo n:Nat}(h:1<=n):lo+n - 1 < lo+n:=xgw (xbk h (xkt _ _)) Nat.one_pos
theorem zbfb {j lo n:Nat}(h:j < lo+(n+1))(e:¬j=lo+n):j < lo+n:=xcy (xcv h) e
theorem zbco {i j k:Nat}(c2:k < j):i<=i+j - 1 - k:=Nat.le_sub_of_add_le (xcz (xdy c2 i))
theorem zbcp {i j k:Nat}(c1:i<=k)(c2:k < j):i+j - 1 - k < j:=xcx (xgk c1 _) (by rw[Nat.sub_right_comm,xct];exact xgw (xis c2) Nat.one_pos)
theorem zka {xs:Array Keyed}{i j:Nat}(hj:j<=xs.size)(k:Nat):kA R (mirror xs i j ((j - i) / 2)) k=if i<=k/\k < j then kA R xs (i+j - 1 - k) else kA R xs k:=by
 have e:=getElem?_mirror_all (i:=i) hj k;split
 ·rename_i c;rw[if_pos c] at e;exact zdl e
 ·rename_i c;rw[if_neg c] at e;exact zdl e
noncomputable def Out (xs ys:Array Keyed) (a b:Nat):Prop:=∀k,k < a\/b<=k->xs[k]?=ys[k]?
theorem Out.refl (xs:Array Keyed)(a b:Nat):Out xs xs a b:=fun _ _=>rfl
theorem Out.trans {xs ys zs:Array Keyed}{a b:Nat}(h1:Out xs ys a b)(h2:Out ys zs a b):Out xs zs a b:=fun k hk=>(h1 k hk).trans (h2 k hk)
theorem Out.mirror {xs:Array Keyed}{i j a b:Nat}(hj:j<=xs.size)(hi:a<=i)(hb:j<=b):Out (mirror xs i j ((j - i) / 2)) xs a b:=fun k hk=>by
 rw[getElem?_mirror_all (i:=i) hj k,if_neg fun z=>hk.elim (fun h=>xeg (xbb hi z.1) h) fun h=>xeg (xbb hb h) z.2]
theorem Out.bubble {xs:Array Keyed}{src d a b:Nat}(hs:src < xs.size)(hd:d<=src)(ha:a<=src - d)(hb:src < b):Out (bubble xs src d) xs a b:=fun k hk=>by
 rw[getElem?_bubble hs d hd k,if_neg fun z=>hk.elim (fun h=>xeg (xbb ha (xdf z.symm)) h) fun h=>xeg h (xcx (xbb (xdf z) (xfr _ _)) hb),if_neg fun z=>hk.elim (fun h=>xeg (xbb ha (xbu z.1)) h) fun h=>xeg h (xcx z.2 hb)]
structure Sm (st st':SortSt) (a b:Nat):Prop where
 out:Out (arrOf st') (arrOf st) a b
 pend:pendingOf st'=pendingOf st
theorem zbac {lo a nrem:Nat}{st:SortSt}{Q:Option (Option Nat)×Nat->SortSt->Prop}(O:Orc prog w A s κ a₀ R)(b:B κ a₀ st)(hn:lo+nrem<=a₀.size)(ha:1<=a)(han:a<=nrem)(hs:UpA R (arrOf st) lo (lo+a))
  (h:∀n,a<=n->n<=nrem->UpA R (arrOf st) lo (lo+n)->(n=nrem\/kA R (arrOf st) (lo+n) < kA R (arrOf st) (lo+n - 1))->Q (none,n) st) :
  wpS (model prog w) A E s (forIn [a:nrem] ((none,a):Option (Option Nat)×Nat) fun _ r=>do
   let x ← ltAt' (lo+r.2) (lo+r.2 - 1)
   match x with
   | some smaller=>if smaller=true then pure (ForInStep.done (none,r.2)) else pure (ForInStep.yield (none,r.2+1))
   | _=>pure (ForInStep.done (some none,r.2))) Q st:=by
 refine xdm (I:=fun x c st'=>st'=st/\c=(none,x)/\UpA R (arrOf st) lo (lo+x)) ?_ ?_ ⟨rfl,rfl,hs⟩
 ·rintro x c st' h1 h2 ⟨rfl,rfl,h3⟩;dsimp only;refine xbj (zll O b (zzu h2 hn) (zzt h2 hn) ?_);by_cases c:kA R (arrOf st') (lo+x) < kA R (arrOf st') (lo+x - 1)
  ·simp only[c,xhe,xfl];exact xbn (h x h1 (xbu h2) h3 (.inr c))
  ·simp only[c,xho,xdg,xfb];refine xbn ⟨rfl,rfl,fun i j hi hij hj=>?_⟩;by_cases e:j=lo+x
   ·subst e;by_cases e2:i=lo+x
    ·rw[e2];exact xbg _
    ·exact xbb (h3 i (lo+x - 1) hi (xcz (xcy hij e2)) (zqw (xbb ha h1))) (xbz c)
   ·exact h3 i j hi hij (zbfb hj e)
 ·rintro c st' ⟨rfl,rfl,h3⟩;rw[xkk han] at h3 ⊢;exact h nrem han (xbg _) h3 (.inl rfl)
theorem zhn {xs:Array Keyed}{i j:Nat}(hj:j<=xs.size)(he:∀k,i<=k->k < j->kA R xs k=kA R xs (j - 1))(k:Nat):kA R (mirror xs i j ((j - i) / 2)) k=kA R xs k:=by
 rw[zka hj];split
 ·rename_i c;rw[he _ (zbco c.2) (zbcp c.1 c.2),he k c.1 c.2]
 ·rfl
structure Fl (κ:SortKind) (a₀:Array Keyed) (R:Keyed->Nat) (st₀ st:SortSt) (lo n neq b:Nat):Prop where
 base:B κ a₀ st
 same:Sm st₀ st lo b
 dn:DnA R (arrOf st) lo (lo+n)
 hq:neq+1<=n
 eqs:∀i,lo+n - (neq+1)<=i->i < lo+n->kA R (arrOf st) i=kA R (arrOf st) (lo+n - 1)
theorem Fl.turn {st₀ st:SortSt}{lo n neq b:Nat}(h:Fl κ a₀ R st₀ st lo n neq b)(hb:lo+n<=b)(hs:b<=a₀.size) :
  Fl κ a₀ R st₀ (setArr st (mirror (arrOf st) (lo+n - (neq+1)) (lo+n) ((lo+n - (lo+n - (neq+1))) / 2))) lo n neq b/\∀k,kA R (mirror (arrOf st) (lo+n - (neq+1)) (lo+n) ((lo+n - (lo+n - (neq+1))) / 2)) k=kA R (arrOf st) k:=by
 have hz:=h.base.size;have hq:=h.hq;have hle:lo+n<=(arrOf st).size:=by rw[hz];exact xbb hb hs
 have e:=zhn (R:=R) (xs:=arrOf st) (i:=lo+n - (neq+1)) (j:=lo+n) hle h.eqs;refine⟨⟨h.base.set (mirror_perm _ _ _ _),⟨(Out.mirror hle (Nat.le_sub_of_add_le (xcf hq lo)) hb).trans h.same.out,h.same.pend⟩,fun i j a1 a2 a3=>?_,h.hq,fun i a1 a2=>?_⟩,e⟩
 ·show kA R (mirror _ _ _ _) j<=kA R (mirror _ _ _ _) i;rw[e,e];exact h.dn i j a1 a2 a3
 ·show kA R (mirror _ _ _ _) i=kA R (mirror _ _ _ _) _;rw[e,e];exact h.eqs i a1 a2
theorem Fl.less {st₀ st:SortSt}{lo n neq b:Nat}(h:Fl κ a₀ R st₀ st lo n neq b)(c:kA R (arrOf st) (lo+n)<=kA R (arrOf st) (lo+n - 1)):DnA R (arrOf st) lo (lo+(n+1)):=fun i j a1 a2 a3=>by
 have hq:=h.hq;by_cases e:j=lo+n
 ·subst e;by_cases e2:i=lo+n
  ·rw[e2];exact xbg _
  ·exact xbb c (h.dn i (lo+n - 1) a1 (xcz (xcy a2 e2)) (zqw (xbb (xkt 1 neq) hq)))
 ·exact h.dn i j a1 a2 (zbfb a3 e)
theorem Fl.fresh {st₀ st:SortSt}{lo n neq b:Nat}(h:Fl κ a₀ R st₀ st lo n neq b)(c:kA R (arrOf st) (lo+n)<=kA R (arrOf st) (lo+n - 1)):Fl κ a₀ R st₀ st lo (n+1) 0 b:=⟨h.base,h.same,h.less c,xet (xef _),fun i g1 g2=>by
 have:i=lo+(n+1) - 1:=xds (xcv g2) g1
 rw[this]⟩
theorem Fl.more {st₀ st:SortSt}{lo n neq b:Nat}(h:Fl κ a₀ R st₀ st lo n neq b)(c:kA R (arrOf st) (lo+n)=kA R (arrOf st) (lo+n - 1)):Fl κ a₀ R st₀ st lo (n+1) (neq+1) b:=by
 have hq:=h.hq;refine⟨h.base,h.same,h.less (xdf c),xet hq,fun i g1 g2=>?_⟩;rw[show lo+(n+1) - 1=lo+n from rfl];by_cases e:i=lo+n
 ·rw[e]
 ·rw[c];exact h.eqs i (xbb (xdf (Nat.succ_sub_succ (lo+n) (neq+1)).symm) g1) (zbfb g2 e)
theorem zbab {lo nrem:Nat}{st:SortSt}{Q:Option Nat->SortSt->Prop}(O:Orc prog w A s κ a₀ R)(b:B κ a₀ st)(hn:lo+nrem<=a₀.size)(h1:1<=nrem)
  (h:∀m st',1<=m->m<=nrem->B κ a₀ st'->Sm st st' lo (lo+nrem)->UpA R (arrOf st') lo (lo+m)->Q (some m) st'):wpS (model prog w) A E s (countRun' lo nrem) Q st:=by
 have sm0:Sm st st lo (lo+nrem):=⟨Out.refl _ _ _,rfl⟩
 have one:∀xs:Array Keyed,UpA R xs lo (lo+1):=fun xs i j a1 a2 a3=>by
  have:i=j:=xds a2 (xbb (xcv a3) a1);subst this;exact xbg _
 have oneD:∀xs:Array Keyed,DnA R xs lo (lo+1):=fun xs i j a1 a2 a3=>by
  have:i=j:=xds a2 (xbb (xcv a3) a1);subst this;exact xbg _
 rw[countRun'_eq];dsimp only;refine xbj (zbac O b hn (xbg _) h1 (one _) fun n n1 n2 hu hlast=>?_);dsimp only;split
 ·exact xbn (h n st n1 n2 b sm0 hu)
 rename_i hne;have hne':n≠nrem:=fun z=>hne (by simp[z])
 have hlt:n < nrem:=xcy n2 hne';have hl:kA R (arrOf st) (lo+n) < kA R (arrOf st) (lo+n - 1):=by
  rcases hlast with z | z
  ·exact absurd z hne'
  ·exact z
 have hz:=b.size;have fin:∀(n:Nat) (st1:SortSt),B κ a₀ st1->Sm st st1 lo (lo+nrem)->1<=n->n<=nrem->DnA R (arrOf st1) lo (lo+n) ->
   B κ a₀ (setArr st1 (mirror (arrOf st1) lo (lo+n) ((lo+n - lo) / 2)))/\Sm st (setArr st1 (mirror (arrOf st1) lo (lo+n) ((lo+n - lo) / 2))) lo (lo+nrem)/\UpA R (mirror (arrOf st1) lo (lo+n) ((lo+n - lo) / 2)) lo (lo+n):=fun n st1 b1 sm1 m1 m2 dn1=>by
  have hz:=b1.size;have hm:=xcf m2 lo;have hle:lo+n<=(arrOf st1).size:=by rw[hz];exact xbb hm hn
  refine⟨b1.set (mirror_perm _ _ _ _),⟨(Out.mirror hle (xbg _) hm).trans sm1.out,sm1.pend⟩,fun i j a1 a2 a3=>?_⟩;have hi:=xcx a2 a3;rw[zka hle,zka hle,if_pos ⟨a1,hi⟩,if_pos ⟨xbb a1 a2,a3⟩];exact dn1 _ _ (zbco a3) (xgk a2 _) (zbcp a1 hi)
 have eqs:¬ kA R (arrOf st) lo < kA R (arrOf st) (lo+n - 1)->∀k,lo<=k->k < lo+n->kA R (arrOf st) k=kA R (arrOf st) (lo+n - 1):=fun c k k1 k2=>by
  have g1:=hu lo k (xbg _) k1 k2;have g2:=hu k (lo+n - 1) k1 (xcz k2) (zqw n1);exact xds g2 (xbb (xbz c) g1)
 have dnx:∀xs:Array Keyed,(∀k,kA R xs k=kA R (arrOf st) k)->¬ kA R (arrOf st) lo < kA R (arrOf st) (lo+n - 1)->DnA R xs lo (lo+(n+1)):=fun xs e c i j a1 a2 a3=>by
  rw[e,e];by_cases e2:j=lo+n
  ·subst e2;by_cases e3:i=lo+n
   ·rw[e3];exact xbg _
   ·rw[eqs c i a1 (xcy a2 e3)];exact xbu hl
  ·have jn:=zbfb a3 e2;rw[eqs c i a1 (xcx a2 jn),eqs c j (xbb a1 a2) jn];exact xbg _
 split
 ·have hle:lo+n<=(arrOf st).size:=by rw[hz];exact xbb (xcf n2 lo) hn
  refine xbj (zll O b (xbk (xgo h1) hn) (zzt hlt hn) ?_);by_cases c:kA R (arrOf st) lo < kA R (arrOf st) (lo+n - 1)
  ·simp only[c,xhe,xfl];exact xbn (h n st n1 n2 b sm0 hu)
  ·simp only[c,xho,xdg,xfb];refine xbj (zse ?_);have b1:B κ a₀ (setArr st (mirror (arrOf st) lo (lo+n) ((lo+n - lo) / 2))):=b.set (mirror_perm _ _ _ _);have sm1:Sm st (setArr st (mirror (arrOf st) lo (lo+n) ((lo+n - lo) / 2))) lo (lo+nrem):=⟨Out.mirror hle (xbg _) (xcf n2 lo),rfl⟩
   have dn1:DnA R (arrOf (setArr st (mirror (arrOf st) lo (lo+n) ((lo+n - lo) / 2)))) lo (lo+(n+1)):=dnx _ (zhn hle (eqs c)) c;generalize (setArr st (mirror (arrOf st) lo (lo+n) ((lo+n - lo) / 2)))=st1 at b1 sm1 dn1 ⊢;refine xbj (xje (xhw ⟨rfl,?_⟩));refine xbj (xev (xdm (I:=fun x c st'=>∃neq,c=(none,x,neq)/\Fl κ a₀ R st st' lo x neq (lo+nrem)) (Q:=fun c st'=>∃m neq,c=(none,m,neq)/\n+1<=m/\m<=nrem/\Fl κ a₀ R st st' lo m neq (lo+nrem)) ?_ ?_ ?_) ?_)
   ·rintro x c st' a1 a2 ⟨neq,rfl,f⟩;dsimp only;refine xbj (zll O f.base (zzu a2 hn) (zzt a2 hn) ?_);by_cases c:kA R (arrOf st') (lo+x) < kA R (arrOf st') (lo+x - 1)
    ·simp only[c,xhe,xfl];split
     ·obtain⟨f2,e⟩:=f.turn (xcf (xbu a2) lo) hn;refine xbj (zse (xbn ⟨0,rfl,f2.fresh ?_⟩));refine xbu (?_:kA R (mirror _ _ _ _) _ < kA R (mirror _ _ _ _) _);rw[e,e];exact c
     ·exact xbn ⟨0,rfl,f.fresh (xbu c)⟩
    ·simp only[c,xho,xdg,xfb];refine xbj (zll O f.base (zzt a2 hn) (zzu a2 hn) ?_);by_cases c2:kA R (arrOf st') (lo+x - 1) < kA R (arrOf st') (lo+x)
     ·simp only[c2,xhe,xfl];exact xbn ⟨x,neq,rfl,a1,xbu a2,f⟩
     ·simp only[c2,xho,xdg,xfb];exact xbn ⟨neq+1,rfl,f.more (xds (xbz c2) (xbz c))⟩
   ·rintro c st' ⟨neq,rfl,f⟩;rw[xkk hlt] at f ⊢;exact⟨nrem,neq,rfl,hlt,xbg _,f⟩
   ·exact⟨0,rfl,b1,sm1,dn1,xet (xef _),fun i g1 g2=>by
     have:i=lo+(n+1) - 1:=xds (xcv g2) g1
     rw[this]⟩
   ·rintro c st' ⟨m,neq,rfl,a1,a2,f⟩;dsimp only;split
    ·obtain⟨f2,e⟩:=f.turn (xcf a2 lo) hn;refine xbj (zse (xbj (zse ?_)));obtain⟨b3,s3,u3⟩:=fin m _ f2.base f2.same (xdi a1) a2 f2.dn;exact xbj (zbac O b3 hn (xdi a1) a2 u3 fun m' m1 m2 hu' _=>xbn (h m' _ (xbb (xdi a1) m1) m2 b3 s3 hu'))
    ·refine xbj (zse ?_);obtain⟨b3,s3,u3⟩:=fin m _ f.base f.same (xdi a1) a2 f.dn;exact xbj (zbac O b3 hn (xdi a1) a2 u3 fun m' m1 m2 hu' _=>xbn (h m' _ (xbb (xdi a1) m1) m2 b3 s3 hu'))
 ·rename_i hn1;have b1:=b;have sm1:=sm0
  have dn1:DnA R (arrOf st) lo (lo+(n+1)):=dnx _ (fun _=>rfl) (by
   have:n=1:=xds (xbz hn1) n1;subst this
   simp)
  refine xbj (xje (xhw ⟨rfl,?_⟩));refine xbj (xev (xdm (I:=fun x c st'=>∃neq,c=(none,x,neq)/\Fl κ a₀ R st st' lo x neq (lo+nrem)) (Q:=fun c st'=>∃m neq,c=(none,m,neq)/\n+1<=m/\m<=nrem/\Fl κ a₀ R st st' lo m neq (lo+nrem)) ?_ ?_ ?_) ?_)
  ·rintro x c st' a1 a2 ⟨neq,rfl,f⟩;dsimp only;refine xbj (zll O f.base (zzu a2 hn) (zzt a2 hn) ?_);by_cases c:kA R (arrOf st') (lo+x) < kA R (arrOf st') (lo+x - 1)
   ·simp only[c,xhe,xfl];split
    ·obtain⟨f2,e⟩:=f.turn (xcf (xbu a2) lo) hn;refine xbj (zse (xbn ⟨0,rfl,f2.fresh ?_⟩));refine xbu (?_:kA R (mirror _ _ _ _) _ < kA R (mirror _ _ _ _) _);rw[e,e];exact c
    ·exact xbn ⟨0,rfl,f.fresh (xbu c)⟩
   ·simp only[c,xho,xdg,xfb];refine xbj (zll O f.base (zzt a2 hn) (zzu a2 hn) ?_);by_cases c2:kA R (arrOf st') (lo+x - 1) < kA R (arrOf st') (lo+x)
    ·simp only[c2,xhe,xfl];exact xbn ⟨x,neq,rfl,a1,xbu a2,f⟩
    ·simp only[c2,xho,xdg,xfb];exact xbn ⟨neq+1,rfl,f.more (xds (xbz c2) (xbz c))⟩
  ·rintro c st' ⟨neq,rfl,f⟩;rw[xkk hlt] at f ⊢;exact⟨nrem,neq,rfl,hlt,xbg _,f⟩
  ·exact⟨0,rfl,b1,sm1,dn1,xet (xef _),fun i g1 g2=>by
    have:i=lo+(n+1) - 1:=xds (xcv g2) g1
    rw[this]⟩
  ·rintro c st' ⟨m,neq,rfl,a1,a2,f⟩;dsimp only;split
   ·obtain⟨f2,e⟩:=f.turn (xcf a2 lo) hn;refine xbj (zse (xbj (zse ?_)));obtain⟨b3,s3,u3⟩:=fin m _ f2.base f2.same (xdi a1) a2 f2.dn;exact xbj (zbac O b3 hn (xdi a1) a2 u3 fun m' m1 m2 hu' _=>xbn (h m' _ (xbb (xdi a1) m1) m2 b3 s3 hu'))
   ·refine xbj (zse ?_);obtain⟨b3,s3,u3⟩:=fin m _ f.base f.same (xdi a1) a2 f.dn;exact xbj (zbac O b3 hn (xdi a1) a2 u3 fun m' m1 m2 hu' _=>xbn (h m' _ (xbb (xdi a1) m1) m2 b3 s3 hu'))
end
section
variable {prog:Program}{w:World}{A:Around}{E:Value->Shared->Prop}{s:Shared}{κ:SortKind}{a₀:Array Keyed}{R:Keyed->Nat}
theorem znt {xs:Array Keyed}{src d:Nat}(hs:src < xs.size)(hd:d<=src)(k:Nat):kA R (bubble xs src d) k=if k=src - d then kA R xs src else if src - d < k/\k<=src then kA R xs (k - 1) else kA R xs k:=by
 have e:=getElem?_bubble hs d hd k;split
 ·rename_i c;rw[if_pos c] at e;exact zdl e
 ·rename_i c;rw[if_neg c] at e;split
  ·rename_i c2;rw[if_pos c2] at e;exact zdl e
  ·rename_i c2;rw[if_neg c2] at e;exact zdl e
theorem zjx {a b n:Nat}(h1:a<=b)(h:b - a<=n - max 0 n):b=a:=by
 rw[Nat.zero_max,xig] at h;exact xds (Nat.le_of_sub_eq_zero (Nat.le_zero.mp h)) h1
theorem zbhl {l r:Nat}(h:¬l ≥ r):l<=(l+r) / 2:=(Nat.le_div_iff_mul_le xkv).mpr (by rw[Nat.mul_two];exact xcf (xbu (xfg h)) l)
theorem zbfc {l r:Nat}(h:¬l ≥ r):(l+r) / 2 < r:=(Nat.div_lt_iff_lt_mul xkv).mpr (by rw[Nat.mul_two];exact Nat.add_lt_add_right (xfg h) r)
theorem hf_l {l r k x:Nat}(h:¬l ≥ r)(g:r - l<=k - x):(l+r) / 2 - l<=k - (x+1):=xbb (xcz (xec (zbhl h) (zbfc h))) (xex g 1)
theorem hf_r {l r k x:Nat}(h:¬l ≥ r)(g:r - l<=k - x):r - ((l+r) / 2+1)<=k - (x+1):=xbb (xgk (xet (zbhl h)) r) (xex g 1)
theorem zwo {p j q:Nat}(h:p < j)(h2:j<=q):j - 1 < q:=xbk (xgw (xis h) Nat.one_pos) h2
theorem zbkh {lo n ok:Nat}{st:SortSt}{Q:Bool->SortSt->Prop}(O:Orc prog w A s κ a₀ R)(b:B κ a₀ st)(hn:lo+n<=a₀.size)(h1:1<=ok)(h2:ok<=n)(up:UpA R (arrOf st) lo (lo+ok))
  (h:∀st',B κ a₀ st'->Sm st st' lo (lo+n)->UpA R (arrOf st') lo (lo+n)->Q true st'):wpS (model prog w) A E s (binarySort' lo n ok) Q st:=by
 rw[binarySort'_eq]
 refine xbj (xev (xdm (I:=fun k c st'=>c=(none,())/\B κ a₀ st'/\Sm st st' lo (lo+n)/\UpA R (arrOf st') lo (lo+min k n))
  (Q:=fun c st'=>c=(none,())/\B κ a₀ st'/\Sm st st' lo (lo+n)/\UpA R (arrOf st') lo (lo+n)) ?_ ?_ ?_) ?_)
 ·rintro k c st' k1 k2 ⟨rfl,b1,sm1,up1⟩;rw[xdv (xbu k2)] at up1;have hz:=b1.size;have hk:lo+k < a₀.size:=xbk (xdy k2 lo) hn
  refine xbj (xev (xdm (I:=fun x c st2=>st2=st'/\∃l r,c=(none,l,r)/\l<=r/\r<=k/\r - l<=k - x/\(∀i,i < l->kA R (arrOf st') (lo+i)<=kA R (arrOf st') (lo+k))/\(∀i,r<=i->i < k->kA R (arrOf st') (lo+k)<=kA R (arrOf st') (lo+i)))
   (Q:=fun c st2=>st2=st'/\∃l r,c=(none,l,r)/\l<=k/\(∀i,i < l->kA R (arrOf st') (lo+i)<=kA R (arrOf st') (lo+k))/\(∀i,l<=i->i < k->kA R (arrOf st') (lo+k)<=kA R (arrOf st') (lo+i))) ?_ ?_ ?_) ?_)
  ·rintro x c st2 x1 x2 ⟨rfl,l,r,rfl,g1,g2,g3,g4,g5⟩;dsimp only;by_cases hge:l ≥ r
   ·rw[if_pos hge];have e:l=r:=xds g1 hge;subst e;exact xbn ⟨rfl,l,l,rfl,g2,g4,g5⟩
   ·have hm:lo+(l+r) / 2 < lo+k:=xdy (xbk (zbfc hge) g2) lo;rw[if_neg hge];refine xbj (zll O b1 hk (xhj hm hk) ?_);by_cases c:kA R (arrOf st2) (lo+k) < kA R (arrOf st2) (lo+(l+r) / 2)
    ·simp only[c,xhe,xfl];exact xbn ⟨rfl,l,(l+r) / 2,rfl,zbhl hge,xbb (xbu (zbfc hge)) g2,hf_l hge g3,g4,fun i a1 a2=>xbb (xbu c) (up1 _ _ (xbx _ _) (xcf a1 lo) (xdy a2 lo))⟩
    ·simp only[c,xho,xdg,xfb];exact xbn ⟨rfl,(l+r) / 2+1,r,rfl,zbfc hge,g2,hf_r hge g3,fun i a1=>xbb (up1 (lo+i) (lo+(l+r) / 2) (xbx _ _) (xcf (xcv a1) lo) hm) (xbz c),g5⟩
  ·rintro c st2 ⟨rfl,l,r,rfl,g1,g2,g3,g4,g5⟩;have e:=zjx g1 g3;subst e;exact⟨rfl,_,_,rfl,g2,g4,g5⟩
  ·exact⟨rfl,0,k,rfl,xef _,xbg _,xbg _,fun i hi=>absurd hi (Nat.not_lt_zero _),fun i a1 a2=>absurd a2 (xeg a1)⟩
  ·rintro c st2 ⟨rfl,l,r,rfl,g1,g2,g3⟩;dsimp only;have hd:lo+k - (lo+k - (lo+l))=lo+l:=Nat.sub_sub_self (xcf g1 lo);have hs:lo+k < (arrOf st2).size:=by rw[hz];exact hk
   refine xbj (zbfg (xbn ⟨rfl,b1.set (bubble_perm _ _ _),⟨(Out.bubble hs (xfr _ _) (by rw[hd];exact xbx _ _) (xdy k2 lo)).trans sm1.out,sm1.pend⟩,fun i j a1 a2 a3=>?_⟩));show kA R (bubble (arrOf st2) (lo+k) (lo+k - (lo+l))) i<=kA R (bubble (arrOf st2) (lo+k) (lo+k - (lo+l))) j;rw[znt hs (xfr _ _),znt hs (xfr _ _),hd];rw[xdv k2] at a3;have hj:j<=lo+k:=xcv a3;have low:∀q,lo<=q->q < lo+l->kA R (arrOf st2) q<=kA R (arrOf st2) (lo+k):=fun q q1 q2=>by
    have:=g2 (q - lo) (xdo q1 q2);rw[xci q1] at this;exact this
   have hig:∀q,lo+l<=q->q < lo+k->kA R (arrOf st2) (lo+k)<=kA R (arrOf st2) q:=fun q q1 q2=>by
    have q0:=xbb (xbx _ _) q1;have:=g3 (q - lo) (xei q1) (xdo q0 q2);rw[xci q0] at this;exact this
   by_cases i1:i=lo+l
   ·rw[if_pos i1];by_cases j1:j=lo+l
    ·rw[if_pos j1];exact xbg _
    ·have jj:=xcy (i1 ▸ a2) (xel j1);rw[if_neg j1,if_pos ⟨jj,hj⟩];exact hig _ (xcz jj) (zwo jj hj)
   ·rw[if_neg i1];by_cases i2:lo+l < i/\i<=lo+k
    ·have jj:=xbk i2.1 a2;rw[if_pos i2,if_neg (xkh jj),if_pos ⟨jj,hj⟩];exact up1 _ _ (xbb (xbx lo l) (xcz i2.1)) (xex a2 1) (zwo jj hj)
    ·have il:i < lo+l:=xcy (xbz fun z=>i2 ⟨z,xbb a2 hj⟩) i1;rw[if_neg i2];by_cases j1:j=lo+l
     ·rw[if_pos j1];exact low i a1 il
     ·rw[if_neg j1];by_cases j2:lo+l < j/\j<=lo+k
      ·rw[if_pos j2];exact up1 _ _ a1 (xcz (xhj il j2.1)) (zwo j2.1 hj)
      ·rw[if_neg j2];exact up1 _ _ a1 a2 (xbk (xcy (xbz fun z=>j2 ⟨z,hj⟩) j1) (xcf g1 lo))
 ·rintro c st' ⟨rfl,b1,sm1,up1⟩;rw[xhs (Nat.le_max_right _ _)] at up1;exact⟨rfl,b1,sm1,up1⟩
 ·refine⟨rfl,b,⟨Out.refl _ _ _,rfl⟩,fun i j a1 a2 a3=>up i j a1 a2 (xbk a3 (xcf (xbb (xgx _ _) (xdf (Nat.max_eq_left h1))) lo))⟩
 ·rintro c st' ⟨rfl,b1,sm1,up1⟩;exact xbn (h st' b1 sm1 up1)
noncomputable def gallop':Bool->Keyed->Array Keyed->Nat->Nat->Nat->StateT SortSt Sem (Option Nat):=sortPriv% PySem.Builtin.gallop
noncomputable def Cut (left:Bool) (R:Keyed->Nat) (key:Keyed) (arr:Array Keyed) (base n h:Nat):Prop:=h<=n/\(∀i,i < h->if left then kA R arr (base+i) < R key else kA R arr (base+i)<=R key)/\(∀i,h<=i->i < n->if left then R key<=kA R arr (base+i) else R key < kA R arr (base+i))
noncomputable def ahead (left:Bool) (R:Keyed->Nat) (key:Keyed) (arr:Array Keyed) (base i:Nat):Bool:=if left then decide (kA R arr (base+i) < R key) else decide (kA R arr (base+i)<=R key)
theorem zkp {left:Bool}{key:Keyed}{arr:Array Keyed}{base i:Nat}{st:SortSt}{Q:Option Bool->SortSt->Prop}(O:Orc prog w A s κ a₀ R)(hk:kindOf st=κ)(mk:key∈a₀.toList)(ma:∃x,arr[base+i]?=some x/\x∈a₀.toList)(h:Q (some (ahead left R key arr base i)) st) :
  wpS (model prog w) A E s (do
   let x ← elem' arr (base+i)
   if left=true then lt' x key else do
    let y ← lt' key x
    pure (Option.map (fun x=>!x) y)) Q st:=by
 obtain⟨x,e,m⟩:=ma;refine xbj (zko e ?_);unfold ahead at h;rw[zds e] at h;cases left with
 | true =>
  rw[if_pos rfl] at h ⊢;exact w_lt O hk m mk h
 | false =>
  rw[if_neg (by decide)] at h ⊢;refine xbj (w_lt O hk mk m (xbn ?_));have q:(!decide (R key < R x))=decide (R x<=R key):=by
   by_cases c:R key < R x
   ·rw[xcc c,xby (Nat.not_le_of_lt c)];rfl
   ·rw[xby c,xcc (xbz c)];rfl
  show Q (some (!decide (R key < R x))) st;rw[q];exact h
theorem zrx {left:Bool}{key:Keyed}{arr:Array Keyed}{base n i j:Nat}(up:UpA R arr base (base+n))(hij:i<=j)(hj:j < n)(h:ahead left R key arr base j=true):ahead left R key arr base i=true:=by
 have:=up (base+i) (base+j) (xbx _ _) (xcf hij _) (xdy hj _);unfold ahead at h ⊢;cases left with
 | true=>rw[if_pos rfl] at h ⊢;exact xcc (xcx this (xdk h))
 | false=>rw[if_neg (by decide)] at h ⊢;exact xcc (xbb this (xdk h))
theorem zbeg {left:Bool}{key:Keyed}{arr:Array Keyed}{base n h:Nat}(h0:h<=n)(h1:∀i,i < h->ahead left R key arr base i=true)(h2:∀i,h<=i->i < n->ahead left R key arr base i=false):Cut left R key arr base n h:=by
 refine⟨h0,fun i hi=>?_,fun i a1 a2=>?_⟩
 ·have:=h1 i hi;unfold ahead at this;cases left with
  | true=>rw[if_pos rfl] at this ⊢;exact xdk this
  | false=>rw[if_neg (by decide)] at this ⊢;exact xdk this
 ·have:=h2 i a1 a2;unfold ahead at this;cases left with
  | true=>rw[if_pos rfl] at this ⊢;exact xbz (of_decide_eq_false this)
  | false=>rw[if_neg (by decide)] at this ⊢;exact xfg (of_decide_eq_false this)
theorem zvm {a b:Nat}(c:¬a ≥ b):(b - a) / 2 < b - a:=Nat.div_lt_self (xez (xfg c)) (xbg 2)
theorem zbha {a b:Nat}(c:¬a ≥ b):a+(b - a) / 2 < b:=xdt (zvm c)
theorem zzr {a b n:Nat}(c:¬a ≥ b)(h:b<=n):a+(b - a) / 2 < n:=xbk (zbha c) h
theorem zbcr {a b n x:Nat}(h:b - a<=n - x):b - (a+(b - a) / 2+1)<=n - (x+1):=xbb (xgk (xet (xbx a _)) b) (xex h 1)
theorem zbcq {a b n x:Nat}(c:¬a ≥ b)(h:b - a<=n - x):a+(b - a) / 2 - a<=n - (x+1):=by
 rw[xct];exact xbb (xcz (zvm c)) (xex h 1)
theorem zbdw (o:Nat):o < 2 * o+1:=Nat.lt_succ_of_le (Nat.le_mul_of_pos_left o xkv)
theorem zbdx {x o:Nat}(h:x+1<=o):x+1+1<=2 * o+1:=xet (xbb h (Nat.le_mul_of_pos_left o xkv))
theorem zbai {a b n:Nat}(h:a+b < n):b < n - a:=Nat.lt_sub_of_add_lt (Nat.add_comm a b ▸ h)
inductive GI (f:Nat->Bool) (n:Nat) (st:SortSt) (x:Nat):Option (Option Nat)×Nat×Nat->SortSt->Prop where
 | mk {a b:Nat} (q1:a<=b) (q2:b<=n) (q3:b - a<=n - x) (q4:∀i,i < a->f i=true) (q5:∀i,b<=i->i < n->f i=false):GI f n st x (none,a,b) st
inductive GE (f:Nat->Bool) (n:Nat) (st:SortSt):Option (Option Nat)×Nat×Nat->SortSt->Prop where
 | mk {b:Nat} (q2:b<=n) (q4:∀i,i < b->f i=true) (q5:∀i,b<=i->i < n->f i=false):GE f n st (none,b,b) st
inductive GU (f:Nat->Bool) (n hint:Nat) (P:Nat->Prop) (st:SortSt):Option (Option Nat)×Nat×Nat->SortSt->Prop where
 | mk {l o:Nat} (g1:l < o) (g2:hint+l < n) (g3:f (hint+l)=true) (g4:P o):GU f n hint P st (none,l,o) st
inductive GD (f:Nat->Bool) (hint:Nat) (P:Nat->Prop) (st:SortSt):Option (Option Nat)×Nat×Nat->SortSt->Prop where
 | mk {l o:Nat} (g1:l < o) (g2:l<=hint) (g3:f (hint - l)=false) (g4:P o):GD f hint P st (none,l,o) st
theorem zfq {left:Bool}{key:Keyed}{arr:Array Keyed}{base n hint:Nat}{st:SortSt}{Q:Option Nat->SortSt->Prop}(O:Orc prog w A s κ a₀ R)(hk:kindOf st=κ)(mk:key∈a₀.toList)(ma:∀i,i < n->∃x,arr[base+i]?=some x/\x∈a₀.toList)(hh:hint < n)
  (up:UpA R arr base (base+n))(h:∀k,Cut left R key arr base n k->Q (some k) st):wpS (model prog w) A E s (gallop' left key arr base n hint) Q st:=by
 have mono:∀i j,i<=j->j < n->ahead left R key arr base j=true->ahead left R key arr base i=true:=fun i j a1 a2=>zrx up a1 a2
 have monoF:∀i j,i<=j->j < n->ahead left R key arr base i=false->ahead left R key arr base j=false:=fun i j a1 a2 e=>by
  cases c:ahead left R key arr base j with
  | false=>rfl
  | true=>rw[mono i j a1 a2 c] at e;cases e
 refine xbj (zkp O hk mk (ma hint hh) ?_);dsimp only;cases hr:ahead left R key arr base hint with
 | true =>
  rw[if_pos rfl];refine xbj (xev (xdm (I:=fun x=>GU (ahead left R key arr base) n hint (x+1<=·) st) (Q:=GU (ahead left R key arr base) n hint (fun o=>n - hint<=o\/(hint+o < n/\ahead left R key arr base (hint+o)=false)) st) ?_ ?_ ?_) ?_)
  ·rintro x c st' x1 x2 @⟨l,o,g1,g2,g3,g4⟩;dsimp only;by_cases c:o ≥ n - hint
   ·rw[if_pos c];exact xbn (.mk g1 g2 g3 (.inl c))
   ·have c3:hint+o < n:=xdt (xfg c);rw[if_neg c];refine xbj (zkp O hk mk (ma (hint+o) c3) ?_);dsimp only;cases c2:ahead left R key arr base (hint+o) with
    | true=>exact xbn (.mk (zbdw o) c3 c2 (zbdx g4))
    | false=>exact xbn (.mk g1 g2 g3 (.inr ⟨c3,c2⟩))
  ·rintro c st' @⟨l,o,g1,g2,g3,g4⟩;rw[Nat.zero_max] at g4;exact .mk g1 g2 g3 (.inl (xbb (xfr _ _) (xdb g4)))
  ·exact .mk Nat.one_pos hh hr (xbg _)
  ·rintro c st' @⟨l,o,g1,g2,g3,g4⟩;dsimp only;have f1:∀i,i < hint+l+1->ahead left R key arr base i=true:=fun i hi=>mono i (hint+l) (xcv hi) g2 g3
   have f2:∀i,hint+min o (n - hint)<=i->i < n->ahead left R key arr base i=false:=fun i a1 a2=>by
    rcases g4 with g | ⟨ga,gb⟩
    ·rw[xhs g,xci (xbu hh)] at a1;exact absurd a2 (xeg a1)
    ·rw[xdv (xbu (zbai ga))] at a1;exact monoF (hint+o) i a1 a2 gb
   have f3:hint+l+1<=hint+min o (n - hint):=xcf (Nat.le_min.mpr ⟨g1,zbai g2⟩) hint;have f4:hint+min o (n - hint)<=n:=xbb (xcf (xhr _ _) hint) (xdf (xci (xbu hh)));generalize hint+l+1=lo at f1 f3 ⊢;generalize hint+min o (n - hint)=hi at f2 f3 f4 ⊢;refine xbj (xev (xdm (I:=GI (ahead left R key arr base) n st) (Q:=GE (ahead left R key arr base) n st) ?_ ?_ (.mk f3 f4 (xbb (xfr _ _) f4) f1 f2)) ?_)
   ·rintro x c st2 x1 x2 @⟨a,b,q1,q2,q3,q4,q5⟩;dsimp only;by_cases c:a ≥ b
    ·rw[if_pos c];have e:b=a:=xds c q1;subst e;exact xbn (.mk q2 q4 q5)
    ·rw[if_neg c];refine xbj (zkp O hk mk (ma (a+(b - a) / 2) (zzr c q2)) ?_);dsimp only;cases c2:ahead left R key arr base (a+(b - a) / 2) with
     | true=>exact xbn (.mk (zbha c) q2 (zbcr q3) (fun i hi=>mono i (a+(b - a) / 2) (xcv hi) (zzr c q2) c2) q5)
     | false=>exact xbn (.mk (xbx _ _) (xbu (zzr c q2)) (zbcq c q3) q4 fun i a1 a2=>monoF (a+(b - a) / 2) i a1 a2 c2)
   ·rintro c st2 @⟨a,b,q1,q2,q3,q4,q5⟩;have e:=zjx q1 q3;subst e;exact .mk q2 q4 q5
   ·rintro c st2 @⟨b,q2,q4,q5⟩;exact xbn (h b (zbeg q2 q4 q5))
 | false =>
  rw[if_neg (by decide)];refine xbj (xev (xdm (I:=fun x=>GD (ahead left R key arr base) hint (x+1<=·) st) (Q:=GD (ahead left R key arr base) hint (fun o=>hint+1<=o\/(o<=hint/\ahead left R key arr base (hint - o)=true)) st) ?_ ?_ ?_) ?_)
  ·rintro x c st' x1 x2 @⟨l,o,g1,g2,g3,g4⟩;dsimp only;by_cases c:o ≥ hint+1
   ·rw[if_pos c];exact xbn (.mk g1 g2 g3 (.inl c))
   ·rw[if_neg c];refine xbj (zkp O hk mk (ma (hint - o) (xcx (xfr _ _) hh)) ?_);dsimp only;cases c2:ahead left R key arr base (hint - o) with
    | true=>exact xbn (.mk g1 g2 g3 (.inr ⟨xcv (xfg c),c2⟩))
    | false=>exact xbn (.mk (zbdw o) (xcv (xfg c)) c2 (zbdx g4))
  ·rintro c st' @⟨l,o,g1,g2,g3,g4⟩;rw[Nat.zero_max] at g4;exact .mk g1 g2 g3 (.inl (xbb hh (xdb g4)))
  ·exact .mk Nat.one_pos (xef _) hr (xbg _)
  ·rintro c st' @⟨l,o,g1,g2,g3,g4⟩;dsimp only;have f1:∀i,i < hint+1 - min o (hint+1)->ahead left R key arr base i=true:=fun i hi=>by
    rcases g4 with g | ⟨ga,gb⟩
    ·rw[xhs g,xig] at hi;exact absurd hi (Nat.not_lt_zero _)
    ·rw[xdv (xfk ga),Nat.succ_sub ga] at hi;exact mono i (hint - o) (xcv hi) (xcx (xfr _ _) hh) gb
   have f2:∀i,hint - l<=i->i < n->ahead left R key arr base i=false:=fun i a1 a2=>monoF (hint - l) i a1 a2 g3
   have f3:hint+1 - min o (hint+1)<=hint - l:=xbb (xgk (Nat.le_min.mpr ⟨g1,xet g2⟩) _) (xdf (Nat.succ_sub_succ hint l));have f4:hint - l<=n:=xbb (xfr _ _) (xbu hh);generalize hint+1 - min o (hint+1)=lo at f1 f3 ⊢;generalize hint - l=hi at f2 f3 f4 ⊢;refine xbj (xev (xdm (I:=GI (ahead left R key arr base) n st) (Q:=GE (ahead left R key arr base) n st) ?_ ?_ (.mk f3 f4 (xbb (xfr _ _) f4) f1 f2)) ?_)
   ·rintro x c st2 x1 x2 @⟨a,b,q1,q2,q3,q4,q5⟩;dsimp only;by_cases c:a ≥ b
    ·rw[if_pos c];have e:b=a:=xds c q1;subst e;exact xbn (.mk q2 q4 q5)
    ·rw[if_neg c];refine xbj (zkp O hk mk (ma (a+(b - a) / 2) (zzr c q2)) ?_);dsimp only;cases c2:ahead left R key arr base (a+(b - a) / 2) with
     | true=>exact xbn (.mk (zbha c) q2 (zbcr q3) (fun i hi=>mono i (a+(b - a) / 2) (xcv hi) (zzr c q2) c2) q5)
     | false=>exact xbn (.mk (xbx _ _) (xbu (zzr c q2)) (zbcq c q3) q4 fun i a1 a2=>monoF (a+(b - a) / 2) i a1 a2 c2)
   ·rintro c st2 @⟨a,b,q1,q2,q3,q4,q5⟩;have e:=zjx q1 q3;subst e;exact .mk q2 q4 q5
   ·rintro c st2 @⟨b,q2,q4,q5⟩;exact xbn (h b (zbeg q2 q4 q5))
end
section
variable {prog:Program}{w:World}{A:Around}{E:Value->Shared->Prop}{s:Shared}{κ:SortKind}{a₀:Array Keyed}{R:Keyed->Nat}
noncomputable abbrev Ord (R:Keyed->Nat) (l:List Keyed):Prop:=l.Pairwise fun x y=>R x<=R y
structure SmG (st st':SortSt):Prop where
 arr:arrOf st'=arrOf st
 pend:pendingOf st'=pendingOf st
 kind:kindOf st'=kindOf st
 failed:failedOf st'=failedOf st
theorem SmG.refl (st:SortSt):SmG st st:=⟨rfl,rfl,rfl,rfl⟩
theorem SmG.trans {a b c:SortSt}(x:SmG a b)(y:SmG b c):SmG a c:=⟨y.arr.trans x.arr,y.pend.trans x.pend,y.kind.trans x.kind,y.failed.trans x.failed⟩
noncomputable def mergeLo':Array Keyed->Array Keyed->StateT SortSt Sem (Array Keyed):=sortPriv% PySem.Builtin.mergeLo
noncomputable def mergeHi':Array Keyed->Array Keyed->StateT SortSt Sem (Array Keyed):=sortPriv% PySem.Builtin.mergeHi
structure ML (R:Keyed->Nat) (all out rest:List Keyed):Prop where
 perm:(out++rest).Perm all
 ord:Ord R out
 le:∀x∈out,∀y∈rest,R x<=R y
theorem ML.grow {all out rest xs rest':List Keyed}(m:ML R all out rest)(p:rest.Perm (xs++rest'))(o:Ord R xs)(h:∀x∈xs,∀y∈rest',R x<=R y):ML R all (out++xs) rest':=by
 refine⟨?_,xfj.mpr ⟨m.ord,o,fun x hx y hy=>m.le x hx y (p.mem_iff.mpr (xhq _ hy))⟩,fun x hx y hy=>?_⟩
 ·rw[xcg];exact(xfz out p.symm).trans m.perm
 ·rcases xch.mp hx with hx | hx
  ·exact m.le x hx y (p.mem_iff.mpr (xde _ hy))
  ·exact h x hx y hy
theorem ML.fin {all out rest rest':List Keyed}(m:ML R all out rest)(p:rest'.Perm rest)(o:Ord R rest'):(out++rest').Perm all/\Ord R (out++rest') :=
 ⟨(xfz out p).trans m.perm,xfj.mpr ⟨m.ord,o,fun x hx y hy=>m.le x hx y (p.mem_iff.mp hy)⟩⟩
theorem Ord.at {l:List Keyed}(h:Ord R l){i j:Nat}{x y:Keyed}(hi:l[i]?=some x)(hj:l[j]?=some y)(hij:i<=j):R x<=R y:=by
 obtain⟨h1,e1⟩:=xbc.mp hi;obtain⟨h2,e2⟩:=xbc.mp hj;by_cases c:i=j
 ·subst c;rw[← e1,← e2];exact xbg _
 ·rw[← e1,← e2];exact xia.mp h i j h1 h2 (xcy hij c)
theorem Ord.drop {l:List Keyed}(h:Ord R l)(n:Nat):Ord R (l.drop n):=List.Pairwise.sublist (List.drop_sublist _ _) h
theorem Ord.take {l:List Keyed}(h:Ord R l)(n:Nat):Ord R (l.take n):=List.Pairwise.sublist (xkb _ _) h
theorem zbi {l:List Keyed}{n:Nat}{y:Keyed}(h:y∈l.drop n):∃j,n<=j/\l[j]?=some y:=by
 obtain⟨i,hi,e⟩:=xdx h;refine⟨n+i,xbx _ _,?_⟩;rw[← e,List.getElem_drop];exact xbe _
theorem zq {l:List Keyed}{n:Nat}{y:Keyed}(h:y∈l.take n):∃j,j < n/\l[j]?=some y:=by
 obtain⟨i,hi,e⟩:=xdx h;have hi2:i < n/\i < l.length:=by rw[xco] at hi;exact Nat.lt_min.mp hi
 refine⟨i,hi2.1,?_⟩;rw[← e,List.getElem_take];exact xbe _
theorem zhs {l:List Keyed}{i:Nat}{x:Keyed}(h:l[i]?=some x):l.drop i=x::l.drop (i+1):=by
 obtain⟨h1,rfl⟩:=xbc.mp h;exact xcu h1
theorem zlc (l:List Keyed)(i k:Nat):l.drop i=(l.drop i).take k++l.drop (i+k):=by
 rw[← xkx,xej]
structure Two (R:Keyed->Nat) (la lb:List Keyed):Prop where
 oa:Ord R la
 ob:Ord R lb
 last:∀x,la[la.length - 1]?=some x->∀y∈lb,R y<=R x
noncomputable def Fin (R:Keyed->Nat) (la lb:List Keyed) (r:Array Keyed):Prop:=r.toList.Perm (la++lb)/\Ord R r.toList
variable {la lb:List Keyed}{out:Array Keyed}{ia ib:Nat}
theorem ML.pushB {R:Keyed->Nat}{all:List Keyed}(T:Two R la lb)(m:ML R all out.toList (la.drop ia++lb.drop ib)){y:Keyed}(hy:lb[ib]?=some y)(h:∀z∈la.drop ia,R y<=R z):ML R all (out.push y).toList (la.drop ia++lb.drop (ib+1)):=by
 rw[xfa];refine m.grow ?_ (xio _ _) fun x hx z hz=>?_
 ·rw[zhs hy];exact List.perm_middle
 ·simp at hx;subst hx
  rcases xch.mp hz with hz | hz
  ·exact h z hz
  ·obtain⟨j,hj,e⟩:=zbi hz;exact T.ob.at hy e (xdb hj)
theorem ML.pushA {R:Keyed->Nat}{all:List Keyed}(T:Two R la lb)(m:ML R all out.toList (la.drop ia++lb.drop ib)){x:Keyed}(hx:la[ia]?=some x)(h:∀z∈lb.drop ib,R x<=R z):ML R all (out.push x).toList (la.drop (ia+1)++lb.drop ib):=by
 rw[xfa];refine m.grow ?_ (xio _ _) fun w hw z hz=>?_
 ·rw[zhs hx];exact .refl _
 ·simp at hw;subst hw
  rcases xch.mp hz with hz | hz
  ·obtain⟨j,hj,e⟩:=zbi hz;exact T.oa.at hx e (xdb hj)
  ·exact h z hz
theorem zbx (xs:Array Keyed)(i j:Nat):(xs.extract i j).toList=(xs.toList.drop i).take (j - i):=by
 rw[Array.toList_extract,List.extract_eq_take_drop]
theorem zob (xs:Array Keyed)(i:Nat):(xs.extract i).toList=xs.toList.drop i:=by
 rw[zbx];exact xfs (by simp)
theorem zbq {xs:Array Keyed}{i:Nat}{x:Keyed}(h:xs.toList[i]?=some x):kA R xs i=R x:=zds (by rw[← xcl];exact h)
end
section
variable {prog:Program}{w:World}{A:Around}{E:Value->Shared->Prop}{s:Shared}{κ:SortKind}{a₀:Array Keyed}{R:Keyed->Nat}{a b out:Array Keyed}{ia ib k:Nat}{y x:Keyed}{all:List Keyed}
theorem ML.galA (T:Two R a.toList b.toList)(m:ML R all out.toList (a.toList.drop ia++b.toList.drop ib))(hy:b.toList[ib]?=some y)(c:Cut false R y a ia (a.size - ia) k):ML R all (out++a.extract ia (ia+k)).toList (a.toList.drop (ia+k)++b.toList.drop ib)/\∀z∈a.toList.drop (ia+k),R y<=R z:=by
 have up:∀z∈a.toList.drop (ia+k),R y<=R z:=fun z hz=>by
  obtain⟨j,hj,e⟩:=zbi hz;have hj2:j < a.size:=by have:=(xbc.mp e).1;simpa using this
  have h0:=xbb (xbx _ _) hj;have:=c.2.2 (j - ia) (xei hj) (xec h0 hj2);rw[xci h0,zbq e] at this;exact xbu this
 have low:∀z∈(a.toList.drop ia).take k,R z<=R y:=fun z hz=>by
  obtain⟨j,hj,e⟩:=zq hz;rw[xeu] at e;have:=c.2.1 j hj;rw[zbq e] at this;exact this
 refine⟨?_,up⟩;rw[xdl,zbx,xct];refine m.grow ?_ ((T.oa.drop ia).take k) fun z hz v hv=>?_
 ·conv=>lhs;rw[zlc a.toList ia k]
  rw[xcg]
 ·rcases xch.mp hv with hv | hv
  ·exact xbb (low z hz) (up v hv)
  ·obtain⟨j,hj,e⟩:=zbi hv;exact xbb (low z hz) (T.ob.at hy e hj)
theorem ML.galB (T:Two R a.toList b.toList)(m:ML R all out.toList (a.toList.drop ia++b.toList.drop ib))(hx:a.toList[ia]?=some x)(c:Cut true R x b ib (b.size - ib) k):ML R all (out++b.extract ib (ib+k)).toList (a.toList.drop ia++b.toList.drop (ib+k))/\∀z∈b.toList.drop (ib+k),R x<=R z:=by
 have up:∀z∈b.toList.drop (ib+k),R x<=R z:=fun z hz=>by
  obtain⟨j,hj,e⟩:=zbi hz;have hj2:j < b.size:=by have:=(xbc.mp e).1;simpa using this
  have h0:=xbb (xbx _ _) hj;have:=c.2.2 (j - ib) (xei hj) (xec h0 hj2);rw[xci h0,zbq e] at this;exact this
 have low:∀z∈(b.toList.drop ib).take k,R z<=R x:=fun z hz=>by
  obtain⟨j,hj,e⟩:=zq hz;rw[xeu] at e;have:=c.2.1 j hj;rw[zbq e] at this;exact xbu this
 refine⟨?_,up⟩;rw[xdl,zbx,xct];refine m.grow ?_ ((T.ob.drop ib).take k) fun z hz v hv=>?_
 ·conv=>lhs;rw[zlc b.toList ib k]
  rw[← xcg,← xcg];exact xhc _ xga
 ·rcases xch.mp hv with hv | hv
  ·obtain⟨j,hj,e⟩:=zbi hv;exact xbb (low z hz) (T.oa.at hx e hj)
  ·exact xbb (low z hz) (up v hv)
theorem ML.done (T:Two R a.toList b.toList)(m:ML R (a.toList++b.toList) out.toList (a.toList.drop ia++b.toList.drop ib))(h:ia=a.size\/ib=b.size):Fin R a.toList b.toList (out++a.extract ia++b.extract ib):=by
 unfold Fin;rw[xdl,xdl,zob,zob,xcg];refine m.fin (.refl _) ?_;rcases h with rfl | rfl
 ·rw[xhd (by simp),List.nil_append];exact T.ob.drop _
 ·rw[xhd (as:=b.toList) (by simp),xep];exact T.oa.drop _
theorem ML.lastA (T:Two R a.toList b.toList)(m:ML R (a.toList++b.toList) out.toList (a.toList.drop ia++b.toList.drop ib))(h:ia+1=a.size):Fin R a.toList b.toList (out++b.extract ib++a.extract ia):=by
 unfold Fin;rw[xdl,xdl,zob,zob,xcg];refine m.fin xga (xfj.mpr ⟨T.ob.drop _,T.oa.drop _,fun v hv z hz=>?_⟩);obtain⟨j,hj,e⟩:=zbi hz;have hj2:j < a.size:=by have:=(xbc.mp e).1;simpa using this
 have:j=a.toList.length - 1:=xds (xcz (by rw[xcd];exact hj2)) (by rw[xcd,← h];exact hj);subst this;exact T.last z e v (xgg hv)
noncomputable def setG':Nat->StateT SortSt Sem Unit:=sortPriv% PySem.Builtin.setMinGallop
theorem zsd {g:Nat}{st:SortSt}{Q:Unit->SortSt->Prop}(h:∀st',SmG st st'->Q () st'):wpS (model prog w) A E s (setG' g) Q st :=
 xfu (h _ ⟨rfl,rfl,rfl,rfl⟩)
theorem zbjn {α:Type}{K:Nat->StateT SortSt Sem α}{Q:α->SortSt->Prop}{st:SortSt}(h:∀v,wpS (model prog w) A E s (K v) Q st):∀y x:Nat,wpS (model prog w) A E s (if y > 1 then K x else K y) Q st:=fun y x=>by
 by_cases e:y > 1
 ·rw[if_pos e];exact h x
 ·rw[if_neg e];exact h y
theorem zbjp {α:Type}{c c2:Prop}[Decidable c][Decidable c2]{X Y Y':StateT SortSt Sem α}{Q:α->SortSt->Prop}{st:SortSt}(hY:¬c->Y'=Y)(h1:c->c2->wpS (model prog w) A E s X Q st)(h2:(c->¬c2)->wpS (model prog w) A E s Y Q st):wpS (model prog w) A E s (if c then(if c2 then X else Y) else Y') Q st:=by
 by_cases e:c
 ·rw[if_pos e];by_cases e2:c2
  ·rw[if_pos e2];exact h1 e e2
  ·rw[if_neg e2];exact h2 fun _=>e2
 ·rw[if_neg e,hY e];exact h2 fun z=>absurd z e
theorem zbaa {α:Type}{c c2 c3:Prop}[Decidable c][Decidable c2][Decidable c3]{X X3 Y Y':StateT SortSt Sem α}{Q:α->SortSt->Prop}{st:SortSt}(hY:¬c->Y'=Y)(h1:c->c2->wpS (model prog w) A E s X Q st)(h3:c->c3->wpS (model prog w) A E s X3 Q st)(h2:(c->¬c2/\¬c3)->wpS (model prog w) A E s Y Q st):wpS (model prog w) A E s (if c then(if c2 then X else if c3 then X3 else Y) else Y') Q st:=by
 by_cases e:c
 ·rw[if_pos e];by_cases e2:c2
  ·rw[if_pos e2];exact h1 e e2
  ·rw[if_neg e2];by_cases e3:c3
   ·rw[if_pos e3];exact h3 e e3
   ·rw[if_neg e3];exact h2 fun _=>⟨e2,e3⟩
 ·rw[if_neg e,hY e];exact h2 fun z=>absurd z e
theorem zbjo {α:Type}{c c2:Prop}[Decidable c][Decidable c2]{X X2 Y:StateT SortSt Sem α}{Q:α->SortSt->Prop}{st:SortSt}(h1:c->wpS (model prog w) A E s X Q st)(h2:c2->wpS (model prog w) A E s X2 Q st)(h3:¬c->¬c2->wpS (model prog w) A E s Y Q st):wpS (model prog w) A E s (if c then X else if c2 then X2 else Y) Q st:=by
 by_cases e:c
 ·rw[if_pos e];exact h1 e
 ·rw[if_neg e];by_cases e2:c2
  ·rw[if_pos e2];exact h2 e2
  ·rw[if_neg e2];exact h3 e e2
theorem w_if {α:Type}{c:Prop}[Decidable c]{X Y:StateT SortSt Sem α}{Q:α->SortSt->Prop}{st:SortSt}(h1:c->wpS (model prog w) A E s X Q st)(h2:¬c->wpS (model prog w) A E s Y Q st):wpS (model prog w) A E s (if c then X else Y) Q st:=by
 by_cases e:c
 ·rw[if_pos e];exact h1 e
 ·rw[if_neg e];exact h2 e
theorem w_el {α:Type}{arr:Array Keyed}{i:Nat}{x:Keyed}{f:Keyed->StateT SortSt Sem α}{Q:α->SortSt->Prop}{st:SortSt}(e:arr[i]?=some x)(h:wpS (model prog w) A E s (f x) Q st):wpS (model prog w) A E s (elem' arr i >>= f) Q st:=xbj (zko e h)
theorem zzz {α:Type}{x y:Keyed}{f:Option Bool->StateT SortSt Sem α}{Q:α->SortSt->Prop}{st:SortSt}(O:Orc prog w A s κ a₀ R)(hk:kindOf st=κ)(hx:x∈a₀.toList)(hy:y∈a₀.toList)(h1:R x < R y->wpS (model prog w) A E s (f (some true)) Q st)(h2:R y<=R x->wpS (model prog w) A E s (f (some false)) Q st):wpS (model prog w) A E s (lt' x y >>= f) Q st:=by
 refine xbj (w_lt O hk hx hy ?_);by_cases c:R x < R y
 ·rw[xcc c];exact h1 c
 ·rw[xby c];exact h2 (xbz c)
inductive Dn {β:Type} (R:Keyed->Nat) (a b:Array Keyed) (st:SortSt):Option (Array Keyed)×β->SortSt->Prop where
 | mk {r:Array Keyed} {z:β} {st':SortSt} (sm:SmG st st') (f:Fin R a.toList b.toList r):Dn R a b st (some r,z) st'
inductive L1 (R:Keyed->Nat) (a b:Array Keyed) (st:SortSt) (x:Nat):Option (Array Keyed)×Array Keyed×Nat×Nat×Nat->SortSt->Prop where
 | mk {out:Array Keyed} {ia ib g:Nat} {st':SortSt} (sm:SmG st st') (m:ML R (a.toList++b.toList) out.toList (a.toList.drop ia++b.toList.drop ib)) (ha:ia+1 < a.size) (hb:ib < b.size) (hx:x < ia+ib):L1 R a b st x (none,out,ia,ib,g) st'
inductive L2' (R:Keyed->Nat) (a b:Array Keyed) (st:SortSt) (x:Nat):Option (Array Keyed)×Array Keyed×Nat×Nat×Nat×Nat->SortSt->Prop where
 | mk {out:Array Keyed} {ia ib ac bc:Nat} {st':SortSt} (sm:SmG st st') (m:ML R (a.toList++b.toList) out.toList (a.toList.drop ia++b.toList.drop ib)) (ha:ia+1 < a.size) (hb:ib < b.size) (hx:x<=ia+ib):L2' R a b st x (none,out,ia,ib,ac,bc) st'
inductive L3 (R:Keyed->Nat) (a b:Array Keyed) (st:SortSt) (x:Nat):Option (Array Keyed)×Array Keyed×Nat×Nat×Nat×Nat×Nat->SortSt->Prop where
 | mk {out:Array Keyed} {ia ib g ac bc:Nat} {st':SortSt} (sm:SmG st st') (m:ML R (a.toList++b.toList) out.toList (a.toList.drop ia++b.toList.drop ib)) (ha:ia+1 < a.size) (hb:ib < b.size) (hx:x<=ia+ib):L3 R a b st x (none,out,ia,ib,g,ac,bc) st'
theorem zsf {st:SortSt}{Q:Array Keyed->SortSt->Prop}(O:Orc prog w A s κ a₀ R)(hk:kindOf st=κ)(ma:∀x∈a.toList,x∈a₀.toList)(mb:∀x∈b.toList,x∈a₀.toList)(T:Two R a.toList b.toList)(ha:1<=a.size)(hb:1<=b.size)
  (fst:∀y,b.toList[0]?=some y->∀x∈a.toList,R y<=R x)(h:∀r st',SmG st st'->Fin R a.toList b.toList r->Q r st'):wpS (model prog w) A E s (mergeLo' a b) Q st:=by
 have atA:∀(i:Nat) (hi:i < a.size),a[i]?=some a[i]/\a.toList[i]?=some a[i]/\a[i]∈a₀.toList:=fun i hi=>⟨getElem?_pos a i hi,by rw[xcl];exact getElem?_pos a i hi,ma _ (by simp)⟩
 have atB:∀(i:Nat) (hi:i < b.size),b[i]?=some b[i]/\b.toList[i]?=some b[i]/\b[i]∈a₀.toList:=fun i hi=>⟨getElem?_pos b i hi,by rw[xcl];exact getElem?_pos b i hi,mb _ (by simp)⟩
 have upA:∀i,UpA R a i (i+(a.size - i)):=fun i p q a1 a2 a3=>by
  have hq:q < a.size:=by lia
  have e1:=(atA p (by lia)).2.1;have e2:=(atA q hq).2.1;rw[zbq e1,zbq e2];exact T.oa.at e1 e2 a2
 have upB:∀i,UpA R b i (i+(b.size - i)):=fun i p q a1 a2 a3=>by
  have hq:q < b.size:=by lia
  have e1:=(atB p (by lia)).2.1;have e2:=(atB q hq).2.1;rw[zbq e1,zbq e2];exact T.ob.at e1 e2 a2
 obtain⟨y0,f0,f1⟩:∃x,b[0]?=some x/\b.toList[0]?=some x:=⟨_,(atB 0 hb).1,(atB 0 hb).2.1⟩
 have start:ML R (a.toList++b.toList) (#[y0]:Array Keyed).toList (a.toList.drop 0++b.toList.drop 1):=by
  have z:ML R (a.toList++b.toList) (#[]:Array Keyed).toList (a.toList.drop 0++b.toList.drop 0):=⟨by simp,List.Pairwise.nil,by simp⟩
  exact z.pushB T f1 fun x hx=>fst y0 f1 x (xgg hx)
 refine xbj (xje (xhw ⟨rfl,xbj (zko f0 (zbjo (fun c1=>?_) (fun c2=>?_) fun c1 c2=>?_))⟩))
 ·exact xbn (h _ _ (.refl _) (start.done T (.inr (by simpa using c1))))
 ·exact xbn (h _ _ (.refl _) (start.lastA T (by simpa using c2)))
 simp only[xft] at c1 c2;refine xbj (xgt ?_);refine xbj (xev (xdm (I:=L1 R a b st) (Q:=Dn R a b st) ?_ ?_ (.mk (.refl _) start (by lia) (by lia) (by lia))) ?_)
 ·rintro x c st1 x1 x2 @⟨out,ia,ib,g,st1,sm1,m,ha1,hb1,hx⟩;dsimp only;refine xbj (xev (xdm (I:=fun _=>L2' R a b st (ia+ib)) (Q:=fun c st'=>Dn R a b st c st'\/L2' R a b st (ia+ib) c st') ?_ ?_ (.mk sm1 m ha1 hb1 (xbg _))) ?_)
  ·rintro x' c st2 _ _ @⟨out,ia',ib',ac,bc,st2,sm2,m,ha2,hb2,hp⟩;dsimp only;have ea:=(atA ia' (xeo ha2)).1;have ela:=(atA ia' (xeo ha2)).2.1;have mea:=(atA ia' (xeo ha2)).2.2;have eb:=(atB ib' hb2).1;have elb:=(atB ib' hb2).2.1;have meb:=(atB ib' hb2).2.2;refine w_el eb (w_el ea (zzz O (sm2.kind.trans hk) meb mea (fun cw=>w_el eb ?_) fun cw=>w_el ea ?_))
   ·skip
    have m2:=m.pushB T elb fun z hz=>by
     obtain⟨j,hj,e⟩:=zbi hz;exact xbb (xbu cw) (T.oa.at ela e hj)
    refine w_if (fun c5=>xbn (.inl (.mk sm2 (m2.done T (.inr (eq_of_beq c5)))))) fun c5=>?_
    rw[xft] at c5;have hb3:ib'+1 < b.size:=xcy hb2 c5;have hp3:ia+ib<=ia'+(ib'+1):=xfk hp;exact w_if (fun _=>xbn (.inr (.mk sm2 m2 ha2 hb3 hp3))) fun _=>xbn (.mk sm2 m2 ha2 hb3 hp3)
   ·skip
    have m2:=m.pushA T ela fun z hz=>by
     obtain⟨j,hj,e⟩:=zbi hz;exact xbb cw (T.ob.at elb e hj)
    refine w_if (fun c5=>xbn (.inl (.mk sm2 (m2.lastA T (eq_of_beq c5))))) fun c5=>?_
    rw[xft] at c5;have ha3:ia'+1+1 < a.size:=xcy ha2 c5;have hp3:ia+ib<=ia'+1+ib':=Nat.succ_add ia' ib' ▸ xfk hp
    exact w_if (fun _=>xbn (.inr (.mk sm2 m2 ha3 hb2 hp3))) fun _=>xbn (.mk sm2 m2 ha3 hb2 hp3)
  ·exact fun c st2 k=>.inr k
  ·rintro c st2 (⟨sm2,f⟩ | @⟨out,ia',ib',ac,bc,st2,sm2,m,ha2,hb2,hp⟩)
   ·exact xbn (.mk sm2 f)
   ·dsimp only;refine xbj (xje (xhw ⟨rfl,?_⟩));refine xbj (xev (xdm (I:=fun x'=>L3 R a b st (ia+ib+x')) (Q:=fun c st'=>Dn R a b st c st'\/L3 R a b st (ia+ib+1) c st') ?_ ?_ (.mk sm2 m ha2 hb2 hp)) ?_)
    ·rintro x' c st3 _ x2' @⟨out,ia',ib',g',ac,bc,st3,sm3,m,ha2,hb2,hp⟩;dsimp only;have eb:=(atB ib' hb2).1;have elb:=(atB ib' hb2).2.1;have meb:=(atB ib' hb2).2.2;generalize g' - 1=g1;generalize g'=y;revert g1;revert y
     refine zbjn ?_;intro gg;refine xbj (zsd fun st4 sg=>?_);have sm4:=sm3.trans sg;refine w_el eb (xbj (zfq O (sm4.kind.trans hk) meb (fun i hi=>⟨_,(atA (ia'+i) (xdt hi)).1,(atA (ia'+i) (xdt hi)).2.2⟩) (xez (xeo ha2)) (upA ia') fun k1 cut1=>?_));have m5:=(m.galA T elb cut1).1;have u5:=(m.galA T elb cut1).2;have hk1:=cut1.1;dsimp only;refine zbaa (fun c6=>?_) (fun c6 c7=>?_) (fun c6 c8=>?_) fun hh=>?_
     ·have z:k1=0:=Nat.le_zero.mp (xbz c6);subst z;simp only[xjk,xhm (xgx _ _),xjx]
     ·exact xbn (.inl (.mk sm4 (m5.lastA T (eq_of_beq c7))))
     ·exact xbn (.inl (.mk sm4 (m5.done T (.inl (eq_of_beq c8)))))
     have ha5:ia'+k1+1 < a.size:=by
      by_cases c6:k1 > 0
      ·have:=hh c6;simp at this;lia
      ·lia
     have hp5:ia+ib+x'<=ia'+k1+ib':=xbb hp (Nat.add_le_add_right (xbx _ _) _);clear hh;generalize ia'+k1=ia5 at m5 u5 ha5 hp5 ⊢;generalize out++a.extract ia' ia5=out5 at m5 ⊢;have m6:=m5.pushB T elb u5;have ea:=(atA _ (xeo ha5)).1;have ela:=(atA _ (xeo ha5)).2.1;have mea:=(atA _ (xeo ha5)).2.2;refine w_el eb (w_if (fun c9=>xbn (.inl (.mk sm4 (m6.done T (.inr (eq_of_beq c9)))))) fun c9=>w_el ea ?_);rw[xft] at c9;refine xbj (zfq O (sm4.kind.trans hk) mea (fun i hi=>⟨_,(atB (ib'+1+i) (xdt hi)).1,(atB (ib'+1+i) (xdt hi)).2.2⟩) (xez (xcy hb2 c9)) (upB (ib'+1)) fun k2 cut2=>?_);have m7:=(m6.galB T ela cut2).1;have u7:=(m6.galB T ela cut2).2;have hk2:=cut2.1;dsimp only;refine zbjp (fun d6=>?_) (fun d6 d7=>?_) fun hh=>?_
     ·have z2:k2=0:=Nat.le_zero.mp (xbz d6);subst z2;simp only[xjk,xhm (xgx _ _),xjx]
     ·exact xbn (.inl (.mk sm4 (m7.done T (.inr (eq_of_beq d7)))))
     have h20:ib'+1+k2≠b.size:=by
      by_cases d6:k2 > 0
      ·have:=hh d6;simp at this;lia
      ·lia
     have m8:=m7.pushA T ela u7;refine w_el ea (w_if (fun d8=>xbn (.inl (.mk sm4 (m8.lastA T (eq_of_beq d8))))) fun d8=>?_);rw[xft] at d8;have ha9:ia5+1+1 < a.size:=xcy ha5 d8;have hb9:ib'+1+k2 < b.size:=by lia
     have hp9:ia+ib+(x'+1)<=ia5+1+(ib'+1+k2):=by lia
     exact w_if (fun _=>xbn (.inr (.mk sm4 m8 ha9 hb9 (xbb (xcf (xkt 1 x') _) hp9)))) fun _=>xbn (.mk sm4 m8 ha9 hb9 hp9)
    ·rintro c st3 ⟨sm3,m,ha2,hb2,hp⟩;exact .inr (.mk sm3 m ha2 hb2 (by lia))
    ·rintro c st3 (⟨sm3,f⟩ | ⟨sm3,m,ha2,hb2,hp⟩)
     ·exact xbn (.mk sm3 f)
     ·exact xbj (zsd fun st4 sg=>xbn (.mk (sm3.trans sg) m ha2 hb2 (xbk (Nat.succ_lt_succ hx) hp)))
 ·rintro c st1 ⟨sm1,m,ha1,hb1,hx⟩;lia
 ·rintro c st1 ⟨sm1,f⟩;exact xbn (h _ st1 sm1 f)
end
structure MH (R:Keyed->Nat) (all out rest:List Keyed):Prop where
 perm:(rest++out.reverse).Perm all
 ord:Ord R out.reverse
 le:∀x∈rest,∀y∈out,R x<=R y
section
variable {R:Keyed->Nat}
theorem MH.grow {all out rest xs rest':List Keyed}(m:MH R all out rest)(p:rest.Perm (rest'++xs.reverse))(o:Ord R xs.reverse)(h:∀x∈rest',∀y∈xs,R x<=R y):MH R all (out++xs) rest':=by
 refine⟨?_,?_,fun x hx y hy=>?_⟩
 ·rw[List.reverse_append,← xcg];exact(xhc _ p.symm).trans m.perm
 ·rw[List.reverse_append];exact xfj.mpr ⟨o,m.ord,fun x hx y hy=>m.le x (p.mem_iff.mpr (xde _ hx)) y (xjc.mp hy)⟩
 ·rcases xch.mp hy with hy | hy
  ·exact m.le x (p.mem_iff.mpr (xhq _ hx)) y hy
  ·exact h x hx y hy
theorem MH.fin {all out rest rest':List Keyed}(m:MH R all out rest)(p:rest'.Perm rest)(o:Ord R rest'):(rest'++out.reverse).Perm all/\Ord R (rest'++out.reverse) :=
 ⟨(xhc _ p).trans m.perm,xfj.mpr ⟨o,m.ord,fun x hx y hy=>m.le x (p.mem_iff.mp hx) y (xjc.mp hy)⟩⟩
theorem zgw {l:List Keyed}{i:Nat}{x:Keyed}(h:l[i]?=some x):l.take (i+1)=l.take i++[x]:=by
 obtain⟨h1,rfl⟩:=xbc.mp h;exact xgh h1
structure TwoH (R:Keyed->Nat) (la lb:List Keyed):Prop where
 oa:Ord R la
 ob:Ord R lb
 first:∀y,lb[0]?=some y->∀x∈la,R y<=R x
variable {la lb all:List Keyed}{out:Array Keyed}{na nb:Nat}
theorem MH.pushB (T:TwoH R la lb)(m:MH R all out.toList (la.take na++lb.take (nb+1))){y:Keyed}(hy:lb[nb]?=some y)(h:∀z∈la.take na,R z<=R y):MH R all (out.push y).toList (la.take na++lb.take nb):=by
 rw[xfa];refine m.grow ?_ (by simp) fun z hz w hw=>?_
 ·rw[zgw hy];simp
 ·simp at hw;subst hw
  rcases xch.mp hz with hz | hz
  ·exact h z hz
  ·obtain⟨j,hj,e⟩:=zq hz;exact T.ob.at e hy (by lia)
theorem MH.pushA (T:TwoH R la lb)(m:MH R all out.toList (la.take (na+1)++lb.take nb)){x:Keyed}(hx:la[na]?=some x)(h:∀z∈lb.take nb,R z<=R x):MH R all (out.push x).toList (la.take na++lb.take nb):=by
 rw[xfa];refine m.grow ?_ (by simp) fun z hz w hw=>?_
 ·rw[zgw hx];simp only[List.reverse_singleton,xcg];exact xfz _ xga
 ·simp at hw;subst hw
  rcases xch.mp hz with hz | hz
  ·obtain⟨j,hj,e⟩:=zq hz;exact T.oa.at e hx (by lia)
  ·exact h z hz
end
section
variable {prog:Program}{w:World}{A:Around}{E:Value->Shared->Prop}{s:Shared}{κ:SortKind}{a₀:Array Keyed}{R:Keyed->Nat}{a b out:Array Keyed}{na nb k:Nat}{y x:Keyed}{all:List Keyed}
theorem zrg (l:List Keyed){k n:Nat}(h:k<=n):l.take n=l.take k++(l.drop k).take (n - k):=by
 conv=>lhs;rw[show n=k+(n - k) by lia,List.take_add]
theorem MH.galA (T:TwoH R a.toList b.toList)(m:MH R all out.toList (a.toList.take na++b.toList.take (nb+1)))(hy:b.toList[nb]?=some y)(hn:na<=a.size)(c:Cut false R y a 0 na k):MH R all (out++(a.extract k na).reverse).toList (a.toList.take k++b.toList.take (nb+1))/\∀z∈a.toList.take k,R z<=R y:=by
 have low:∀z∈a.toList.take k,R z<=R y:=fun z hz=>by
  obtain⟨j,hj,e⟩:=zq hz;have:=c.2.1 j hj;rw[xed,zbq e] at this;exact this
 have up:∀z∈(a.toList.drop k).take (na - k),R y<=R z:=fun z hz=>by
  obtain⟨j,hj,e⟩:=zq hz;rw[xeu] at e;have:=c.2.2 (k+j) (by lia) (by lia);rw[xed,zbq e] at this;exact xbu this
 refine⟨?_,low⟩;rw[xdl,xht,zbx];refine m.grow ?_ (by rw[xhu];exact(T.oa.drop k).take _) fun v hv z hz=>?_
 ·rw[xhu,zrg a.toList c.1,xcg,xcg];exact xfz _ xga
 ·have hz:=up z (xjc.mp hz);rcases xch.mp hv with hv | hv
  ·exact xbb (low v hv) hz
  ·obtain⟨j,hj,e⟩:=zq hv;exact xbb (T.ob.at e hy (by lia)) hz
theorem MH.galB (T:TwoH R a.toList b.toList)(m:MH R all out.toList (a.toList.take (na+1)++b.toList.take nb))(hx:a.toList[na]?=some x)(hn:nb<=b.size)(c:Cut true R x b 0 nb k):MH R all (out++(b.extract k nb).reverse).toList (a.toList.take (na+1)++b.toList.take k)/\∀z∈b.toList.take k,R z<=R x:=by
 have low:∀z∈b.toList.take k,R z<=R x:=fun z hz=>by
  obtain⟨j,hj,e⟩:=zq hz;have:=c.2.1 j hj;rw[xed,zbq e] at this;exact xbu this
 have up:∀z∈(b.toList.drop k).take (nb - k),R x<=R z:=fun z hz=>by
  obtain⟨j,hj,e⟩:=zq hz;rw[xeu] at e;have:=c.2.2 (k+j) (by lia) (by lia);rw[xed,zbq e] at this;exact this
 refine⟨?_,low⟩;rw[xdl,xht,zbx];refine m.grow ?_ (by rw[xhu];exact(T.ob.drop k).take _) fun v hv z hz=>?_
 ·rw[xhu,zrg b.toList c.1,xcg]
 ·have hz:=up z (xjc.mp hz);rcases xch.mp hv with hv | hv
  ·obtain⟨j,hj,e⟩:=zq hv;exact xbb (T.oa.at e hx (by lia)) hz
  ·exact xbb (low v hv) hz
theorem zke (xs:Array Keyed)(n:Nat):(xs.extract 0 n).toList=xs.toList.take n:=by
 rw[zbx,List.drop_zero,Nat.sub_zero]
theorem MH.done (T:TwoH R a.toList b.toList)(m:MH R (a.toList++b.toList) out.toList (a.toList.take na++b.toList.take nb))(h:na=0\/nb=0):Fin R a.toList b.toList (a.extract 0 na++b.extract 0 nb++out.reverse):=by
 unfold Fin;rw[xdl,xdl,zke,zke,xht];refine m.fin (.refl _) ?_;rcases h with rfl | rfl
 ·rw[List.take_zero,List.nil_append];exact T.ob.take _
 ·rw[List.take_zero,xep];exact T.oa.take _
theorem MH.firstB (T:TwoH R a.toList b.toList)(m:MH R (a.toList++b.toList) out.toList (a.toList.take na++b.toList.take nb))(h:nb=1):Fin R a.toList b.toList (b.extract 0 nb++a.extract 0 na++out.reverse):=by
 unfold Fin;rw[xdl,xdl,zke,zke,xht];refine m.fin xga (xfj.mpr ⟨T.ob.take _,T.oa.take _,fun v hv z hz=>?_⟩);obtain⟨j,hj,e⟩:=zq hv;have:j=0:=by lia
 subst this;exact T.first v e z (xhv hz)
inductive H1 (R:Keyed->Nat) (a b:Array Keyed) (st:SortSt) (x:Nat):Option (Array Keyed)×Nat×Nat×Array Keyed×Nat->SortSt->Prop where
 | mk {na nb:Nat} {out:Array Keyed} {g:Nat} {st':SortSt} (sm:SmG st st') (m:MH R (a.toList++b.toList) out.toList (a.toList.take na++b.toList.take nb)) (a1:1<=na) (a2:na<=a.size) (b1:2<=nb) (b2:nb<=b.size) (hx:x+na+nb < a.size+b.size):H1 R a b st x (none,na,nb,out,g) st'
inductive H2 (R:Keyed->Nat) (a b:Array Keyed) (st:SortSt) (x:Nat):Option (Array Keyed)×Nat×Nat×Array Keyed×Nat×Nat->SortSt->Prop where
 | mk {na nb:Nat} {out:Array Keyed} {ac bc:Nat} {st':SortSt} (sm:SmG st st') (m:MH R (a.toList++b.toList) out.toList (a.toList.take na++b.toList.take nb)) (a1:1<=na) (a2:na<=a.size) (b1:2<=nb) (b2:nb<=b.size) (hx:na+nb<=x):H2 R a b st x (none,na,nb,out,ac,bc) st'
inductive H3 (R:Keyed->Nat) (a b:Array Keyed) (st:SortSt) (x y:Nat):Option (Array Keyed)×Nat×Nat×Array Keyed×Nat×Nat×Nat->SortSt->Prop where
 | mk {na nb:Nat} {out:Array Keyed} {g ac bc:Nat} {st':SortSt} (sm:SmG st st') (m:MH R (a.toList++b.toList) out.toList (a.toList.take na++b.toList.take nb)) (a1:1<=na) (a2:na<=a.size) (b1:2<=nb) (b2:nb<=b.size) (hx:y+na+nb<=x):H3 R a b st x y (none,na,nb,out,g,ac,bc) st'
theorem zsg {st:SortSt}{Q:Array Keyed->SortSt->Prop}(O:Orc prog w A s κ a₀ R)(hk:kindOf st=κ)(ma:∀x∈a.toList,x∈a₀.toList)(mb:∀x∈b.toList,x∈a₀.toList)(T:TwoH R a.toList b.toList)(ha:1<=a.size)(hb:1<=b.size)
  (lst:∀x,a.toList[a.size - 1]?=some x->∀y∈b.toList,R y<=R x)(h:∀r st',SmG st st'->Fin R a.toList b.toList r->Q r st'):wpS (model prog w) A E s (mergeHi' a b) Q st:=by
 have atA:∀(i:Nat) (hi:i < a.size),a[i]?=some a[i]/\a.toList[i]?=some a[i]/\a[i]∈a₀.toList:=fun i hi=>⟨getElem?_pos a i hi,by rw[xcl];exact getElem?_pos a i hi,ma _ (by simp)⟩
 have atB:∀(i:Nat) (hi:i < b.size),b[i]?=some b[i]/\b.toList[i]?=some b[i]/\b[i]∈a₀.toList:=fun i hi=>⟨getElem?_pos b i hi,by rw[xcl];exact getElem?_pos b i hi,mb _ (by simp)⟩
 have upA:∀n,n<=a.size->UpA R a 0 (0+n):=fun n hn p q a1 a2 a3=>by
  have hq:q < a.size:=xbk a3 (xbb (xdf (xed n)) hn);have e1:=(atA p (xcx a2 hq)).2.1;have e2:=(atA q hq).2.1;rw[zbq e1,zbq e2];exact T.oa.at e1 e2 a2
 have upB:∀n,n<=b.size->UpA R b 0 (0+n):=fun n hn p q a1 a2 a3=>by
  have hq:q < b.size:=xbk a3 (xbb (xdf (xed n)) hn);have e1:=(atB p (xcx a2 hq)).2.1;have e2:=(atB q hq).2.1;rw[zbq e1,zbq e2];exact T.ob.at e1 e2 a2
 obtain⟨x0,f0,f1⟩:∃x,a[a.size - 1]?=some x/\a.toList[a.size - 1]?=some x:=⟨_,(atA (a.size - 1) (xgw ha Nat.one_pos)).1,(atA (a.size - 1) (xgw ha Nat.one_pos)).2.1⟩
 have start:MH R (a.toList++b.toList) (#[x0]:Array Keyed).toList (a.toList.take (a.size - 1)++b.toList.take b.size):=by
  have z:MH R (a.toList++b.toList) (#[]:Array Keyed).toList (a.toList.take (a.size - 1+1)++b.toList.take b.size):=by
   refine⟨?_,List.Pairwise.nil,by simp⟩;rw[xfv ha,xfs (by simp),xfs (by simp)];simp
  exact z.pushA T f1 fun y hy=>lst x0 f1 y (xhv hy)
 refine xbj (xje (xhw ⟨rfl,xbj (zko f0 (zbjo (fun c1=>?_) (fun c2=>?_) fun c1 c2=>?_))⟩))
 ·exact xbn (h _ _ (.refl _) (start.done T (.inl (by simpa using c1))))
 ·exact xbn (h _ _ (.refl _) (start.firstB T (by simpa using c2)))
 simp only[xft] at c1 c2;refine xbj (xgt ?_);refine xbj (xev (xdm (I:=H1 R a b st) (Q:=Dn R a b st) ?_ ?_ (.mk (.refl _) start (by lia) (by lia) (by lia) (xbg _) (by lia))) ?_)
 ·rintro x c st1 x1 x2 @⟨na,nb,out,g,st1,sm1,m,a1,a2,b1,b2,hx⟩;dsimp only;refine xbj (xev (xdm (I:=fun _=>H2 R a b st (na+nb)) (Q:=fun c st'=>Dn R a b st c st'\/H2 R a b st (na+nb) c st') ?_ ?_ (.mk sm1 m a1 a2 b1 b2 (xbg _))) ?_)
  ·rintro x' c st2 _ _ @⟨na',nb',out,ac,bc,st2,sm2,m,g1,g2,g3,g4,hp⟩;obtain⟨p,rfl⟩:∃p,na'=p+1:=⟨na' - 1,(xfv g1).symm⟩
   obtain⟨q,rfl⟩:∃q,nb'=q+1:=⟨nb' - 1,(xfv (xdb g3)).symm⟩
   dsimp only;have ea:=(atA p g2).1;have ela:=(atA p g2).2.1;have mea:=(atA p g2).2.2;have eb:=(atB q g4).1;have elb:=(atB q g4).2.1;have meb:=(atB q g4).2.2;refine w_el eb (w_el ea (zzz O (sm2.kind.trans hk) meb mea (fun cw=>w_el ea ?_) fun cw=>w_el eb ?_))
   ·skip
    have m2:=m.pushA T ela fun z hz=>by
     obtain⟨j,hj,e⟩:=zq hz;exact xbb (T.ob.at e elb (xcv hj)) (xbu cw)
    refine w_if (fun c5=>xbn (.inl (.mk sm2 (m2.done T (.inl (eq_of_beq c5)))))) fun c5=>?_
    rw[xft] at c5;have a3:1<=p:=xjy c5;have a4:p<=a.size:=xdb g2;have a5:p+(q+1)<=na+nb:=xbb (Nat.add_le_add_right (xkw p) _) hp;exact w_if (fun _=>xbn (.inr (.mk sm2 m2 a3 a4 g3 g4 a5))) fun _=>xbn (.mk sm2 m2 a3 a4 g3 g4 a5)
   ·skip
    have m2:=m.pushB T elb fun z hz=>by
     obtain⟨j,hj,e⟩:=zq hz;exact xbb (T.oa.at e ela (xcv hj)) cw
    refine w_if (fun c5=>xbn (.inl (.mk sm2 (m2.firstB T (eq_of_beq c5))))) fun c5=>?_
    rw[xft] at c5;have a3:2<=q:=xcy (Nat.le_of_succ_le_succ g3) (xel c5);have a4:q<=b.size:=xdb g4;have a5:p+1+q<=na+nb:=xdb hp;exact w_if (fun _=>xbn (.inr (.mk sm2 m2 g1 g2 a3 a4 a5))) fun _=>xbn (.mk sm2 m2 g1 g2 a3 a4 a5)
  ·exact fun c st2 k=>.inr k
  ·rintro c st2 (⟨sm2,f⟩ | @⟨na',nb',out,ac,bc,st2,sm2,m,g1,g2,g3,g4,hp⟩)
   ·exact xbn (.mk sm2 f)
   ·dsimp only;refine xbj (xje (xhw ⟨rfl,?_⟩));refine xbj (xev (xdm (I:=H3 R a b st (na+nb)) (Q:=fun c st'=>Dn R a b st c st'\/H3 R a b st (na+nb) 1 c st') ?_ ?_ (.mk sm2 m g1 g2 g3 g4 (by rw[xed];exact hp))) ?_)
    ·rintro x' c st3 _ x2' @⟨na',nb',out,g',ac,bc,st3,sm3,m,g1,g2,g3,g4,hp⟩;obtain⟨q,rfl⟩:∃q,nb'=q+1:=⟨nb' - 1,(xfv (xdb g3)).symm⟩
     dsimp only;have eb:=(atB q g4).1;have elb:=(atB q g4).2.1;have meb:=(atB q g4).2.2;generalize g' - 1=g1;generalize g'=y;revert g1;revert y
     refine zbjn ?_;intro gg;refine xbj (zsd fun st4 sg=>?_);have sm4:=sm3.trans sg;refine w_el eb (xbj (zfq O (sm4.kind.trans hk) meb (fun i hi=>⟨_,(atA (0+i) (by lia)).1,(atA (0+i) (by lia)).2.2⟩) (by lia) (upA na' g2) fun k1 cut1=>?_));have m5:=(m.galA T elb g2 cut1).1;have u5:=(m.galA T elb g2 cut1).2;have hk1:=cut1.1;dsimp only;refine zbjp (fun c6=>?_) (fun c6 c7=>?_) fun hh=>?_
     ·have z:k1=na':=by lia
      subst z;rw[show out++(a.extract k1 k1).reverse=out by simp[xgx]]
     ·exact xbn (.inl (.mk sm4 (m5.done T (.inl (eq_of_beq c7)))))
     have g5:1<=k1:=by
      by_cases c6:na' - k1 > 0
      ·have:=hh c6;simp at this;lia
      ·lia
     have g6:k1<=a.size:=xbb hk1 g2;have hp5:x'+k1+(q+1)<=na+nb:=by lia
     clear hh hk1 cut1;generalize out++(a.extract k1 na').reverse=out5 at m5 ⊢;obtain⟨p,rfl⟩:∃p,k1=p+1:=⟨k1 - 1,(xfv g5).symm⟩
     simp only[Nat.add_sub_cancel];have m6:=m5.pushB T elb u5;have ea:=(atA p g6).1;have ela:=(atA p g6).2.1;have mea:=(atA p g6).2.2;refine w_el eb (w_if (fun c9=>xbn (.inl (.mk sm4 (m6.firstB T (eq_of_beq c9))))) fun c9=>w_el ea ?_);rw[xft] at c9;refine xbj (zfq O (sm4.kind.trans hk) mea (fun i hi=>⟨_,(atB (0+i) (by lia)).1,(atB (0+i) (by lia)).2.2⟩) (by lia) (upB q (xdb g4)) fun k2 cut2=>?_);have m7:=(m6.galB T ela (xdb g4) cut2).1;have u7:=(m6.galB T ela (xdb g4) cut2).2;have hk2:=cut2.1;dsimp only;refine zbaa (fun d6=>?_) (fun d6 d7=>?_) (fun d6 d9=>?_) fun hh=>?_
     ·have z2:k2=q:=by lia
      subst z2;simp only[xhm (xbb (xgx _ _) (xbg _)),Array.reverse_empty,xjx]
     ·exact xbn (.inl (.mk sm4 (m7.firstB T (eq_of_beq d7))))
     ·exact xbn (.inl (.mk sm4 (m7.done T (.inr (eq_of_beq d9)))))
     have h20:2<=k2:=by
      by_cases d6:q - k2 > 0
      ·have:=hh d6;simp at this;lia
      ·lia
     have m8:=m7.pushA T ela u7;refine w_el ea (w_if (fun d8=>xbn (.inl (.mk sm4 (m8.done T (.inl (eq_of_beq d8)))))) fun d8=>?_);rw[xft] at d8;have a3:1<=p:=xjy d8;have a4:p<=a.size:=xdb g6;have a5:k2<=b.size:=xbb hk2 (xdb g4);have a6:x'+1+p+k2<=na+nb:=by lia
     exact w_if (fun _=>xbn (.inr (.mk sm4 m8 a3 a4 h20 a5 (by lia)))) fun _=>xbn (.mk sm4 m8 a3 a4 h20 a5 a6)
    ·rintro c st3 ⟨sm3,m,g1,g2,g3,g4,hp⟩;exact .inr (.mk sm3 m g1 g2 g3 g4 (by lia))
    ·rintro c st3 (⟨sm3,f⟩ | @⟨na',nb',out,g',ac,bc,st3,sm3,m,g1,g2,g3,g4,hp⟩)
     ·exact xbn (.mk sm3 f)
     ·have h9:x+1+na'+nb' < a.size+b.size:=by lia
      exact xbj (zsd fun st4 sg=>xbn (.mk (sm3.trans sg) m g1 g2 g3 g4 h9))
 ·rintro c st1 ⟨sm1,m,a1,a2,b1,b2,hx⟩;lia
 ·rintro c st1 ⟨sm1,f⟩;exact xbn (h _ st1 sm1 f)
end
theorem zqe:∀(l:List Keyed) (n off:Nat) (xs:Array Keyed),off+n+l.length<=xs.size->∀i,((l.zipIdx n).foldl (fun a p=>a.setIfInBounds (off+p.2) p.1) xs)[i]?=if off+n<=i/\i < off+n+l.length then l[i - (off+n)]? else xs[i]?
 | [],n,off,xs,h,i=>by
  rw[if_neg (by simp)]
  rfl
 | x::l,n,off,xs,h,i=>by
  rw[List.zipIdx_cons,xib];rw[xbv] at h;have e1:off+(n+1)+l.length=off+n+(l.length+1):=Nat.succ_add_eq_add_succ (off+n) l.length;rw[zqe l (n+1) off _ (by rw[Array.size_setIfInBounds];exact xbb (xdf e1) h) i];rw[xbv];by_cases c:off+(n+1)<=i/\i < off+(n+1)+l.length
  ·rw[if_pos c,if_pos ⟨xdb c.1,xfi c.2 e1⟩,show i - (off+n)=i - (off+(n+1))+1 from(xfv (xez c.1)).symm,xgp]
  ·rw[if_neg c];by_cases c2:i=off+n
   ·rw[if_pos ⟨xdf c2.symm,xcx (xdf c2) (xgo (Nat.succ_pos _))⟩,c2,xig,xip];exact Array.getElem?_setIfInBounds_self_of_lt (xbk (xgo (Nat.succ_pos l.length)) h)
   ·rw[if_neg fun z=>c ⟨xcy z.1 (xel c2),xfi z.2 e1.symm⟩];exact Array.getElem?_setIfInBounds_ne (fun z=>c2 z.symm)
theorem zwk {m xs:Array Keyed}{off:Nat}(h:off+m.size<=xs.size):(m.toList.zipIdx.foldl (fun a p=>a.setIfInBounds (off+p.2) p.1) xs).toList=xs.toList.take off++m.toList++xs.toList.drop (off+m.size):=by
 apply xit;intro i;rw[xcl,zqe m.toList 0 off xs (by simpa using h) i];simp only[xjk,xcd];have l1:(xs.toList.take off).length=off:=by rw[xco,xcd];exact xdv (xbb (xbx _ _) h)
 by_cases c:off<=i/\i < off+m.size
 ·rw[if_pos c,xcg,xcr (xbb (xdf l1) c.1),l1,xbf (by rw[xcd];exact xdo c.1 c.2)]
 ·rw[if_neg c];by_cases c2:i < off
  ·rw[xcg,xbf (xfi c2 l1.symm),List.getElem?_take,if_pos c2,xcl]
  ·have h3:off+m.size<=i:=xbz fun z=>c ⟨xbz c2,z⟩
   rw[xcr (by rw[xbp,l1,xcd];exact h3),xeu];simp only[xbp,l1,xcd];rw[xci h3,xcl]
section
variable {prog:Program}{w:World}{A:Around}{E:Value->Shared->Prop}{s:Shared}{κ:SortKind}{a₀:Array Keyed}{R:Keyed->Nat}
theorem zuv {xs:Array Keyed}{i j:Nat}(up:UpA R xs i j)(hj:j<=xs.size):Ord R (xs.extract i j).toList:=by
 rw[zbx];refine xia.mpr fun p q hp hq hpq=>?_
 simp only[xco,xer,xcd] at hp hq;simp only[List.getElem_take,List.getElem_drop,Array.getElem_toList];have:=up (i+p) (i+q) (xbx _ _) (xcf (xbu hpq) i) (xdt (xbk hq (xgx _ _)));rw[zds (getElem?_pos xs (i+p) (xdt (xbk hp (xhr _ _)))),zds (getElem?_pos xs (i+q) (xdt (xbk hq (xhr _ _))))] at this;exact this
theorem ziz {xs:Array Keyed}{i j:Nat}{x:Keyed}(h:x∈(xs.extract i j).toList):∃q,i<=q/\q < j/\xs[q]?=some x:=by
 rw[zbx] at h;obtain⟨q,hq,e⟩:=zq h;rw[xeu,xcl] at e;exact⟨i+q,xbx _ _,xdt hq,e⟩
theorem zbdf {xs:Array Keyed}{i j q:Nat}(h:q < j - i):(xs.extract i j).toList[q]?=xs[i+q]?:=by
 rw[zbx,List.getElem?_take,if_pos h,xeu,xcl]
structure Mg (R:Keyed->Nat) (xs ys:Array Keyed) (lo hi:Nat):Prop where
 perm:ys.Perm xs
 out:Out ys xs lo hi
 up:UpA R ys lo hi
theorem ztl {xs m:Array Keyed}{sa sb ea k nb':Nat}{y0 xl:Keyed}(hsb:sb<=ea)(hea:ea<=xs.size)(hk:sa+k < sb)(hnb:sb+nb'<=ea)(hnb1:1<=nb')(upA:UpA R xs sa sb)(upB:UpA R xs sb ea)
  (e0:xs[sb]?=some y0)(el:xs[sb - 1]?=some xl)(c1:Cut false R y0 xs sa (sb - sa) k)(c2:Cut true R xl xs sb (ea - sb) nb')
  (f:Fin R (xs.extract (sa+k) sb).toList (xs.extract sb (sb+nb')).toList m):Mg R xs (m.toList.zipIdx.foldl (fun a p=>a.setIfInBounds (sa+k+p.2) p.1) xs) sa ea:=by
 have lx:(xs.extract (sa+k) sb).toList.length=sb - (sa+k):=by rw[zbx,xco,xer,xcd];exact xdv (xex (xbb hsb hea) _)
 have ly:(xs.extract sb (sb+nb')).toList.length=nb':=by rw[zbx,xco,xer,xcd,xct];exact xdv (xei (xbb hnb hea))
 have lm:m.size=sb+nb' - (sa+k):=by
  have:=f.1.length_eq;rw[xbp,lx,ly,xcd] at this;exact this.trans (Nat.sub_add_comm (xbu hk)).symm
 have he:sa+k+m.size=sb+nb':=by rw[lm];exact xci (xbb (xbu hk) (xbx _ _))
 have hsz:sa+k+m.size<=xs.size:=by rw[he];exact xbb hnb hea
 have hs1:=xcz hk;have s1:sb - 1 < sb:=xgw (xis hk) Nat.one_pos;have g:∀i,(m.toList.zipIdx.foldl (fun a p=>a.setIfInBounds (sa+k+p.2) p.1) xs)[i]?=if sa+k<=i/\i < sb+nb' then m.toList[i - (sa+k)]? else xs[i]?:=fun i=>by
  have:=zqe m.toList 0 (sa+k) xs (by simpa using hsz) i;simp only[xjk,xcd] at this;rw[he] at this;exact this
 have mid:∀v∈m.toList,R y0<=R v/\R v<=R xl:=fun v hv=>by
  rcases xch.mp (f.1.mem_iff.mp hv) with hv | hv
  ·obtain⟨q,q1,q2,e⟩:=ziz hv;have q0:=xbb (xbx _ _) q1;have h1:=c1.2.2 (q - sa) (xei q1) (xec q0 q2);rw[xci q0,zds e] at h1;have h2:=upA q (sb - 1) q0 (xcz q2) s1;rw[zds e,zds el] at h2;have h1':R y0 < R v:=h1;exact⟨xbu h1',h2⟩
  ·obtain⟨q,q1,q2,e⟩:=ziz hv;have h1:=upB sb q (xbg _) q1 (xbk q2 hnb);rw[zds e,zds e0] at h1;have h2:=c2.2.1 (q - sb) (xdo q1 q2);rw[xci q1,zds e] at h2;have h2':R v < R xl:=h2;exact⟨h1,xbu h2'⟩
 have low:∀i,sa<=i->i < sa+k->kA R xs i<=R y0:=fun i a1 a2=>by
  have:=c1.2.1 (i - sa) (xdo a1 a2);rw[xci a1] at this;exact this
 have hig:∀i,sb+nb'<=i->i < ea->R xl<=kA R xs i:=fun i a1 a2=>by
  have i0:=xbb (xbx _ _) a1;have:=c2.2.2 (i - sb) (xei a1) (xec i0 a2);rw[xci i0] at this;exact this
 have kk:∀i,kA R (m.toList.zipIdx.foldl (fun a p=>a.setIfInBounds (sa+k+p.2) p.1) xs) i=if sa+k<=i/\i < sb+nb' then kA R m (i - (sa+k)) else kA R xs i:=fun i=>by
  have:=g i;split
  ·rename_i c;rw[if_pos c,xcl] at this;exact zdl this
  ·rename_i c;rw[if_neg c] at this;exact zdl this
 have mm:∀i,i < m.size->∃v,m.toList[i]?=some v/\v∈m.toList:=fun i hi=>⟨m.toList[i]'(by simpa using hi),xbe _,xem _⟩
 refine⟨?_,fun i hi=>?_,fun i j a1 a2 a3=>?_⟩
 ·refine xff.mpr ?_;rw[zwk hsz,he];have split:xs.toList=xs.toList.take (sa+k)++((xs.extract (sa+k) sb).toList++(xs.extract sb (sb+nb')).toList)++xs.toList.drop (sb+nb'):=by
   rw[zbx,zbx];rw[xct]
   conv=>lhs;rw[← xej (sa+k) xs.toList,← xej (sb - (sa+k)) (xs.toList.drop (sa+k)),xkx,xci (xbu hk),← xej nb' (xs.toList.drop sb),xkx]
   simp only[xcg]
  conv=>rhs;rw[split]
  exact xhc _ (xfz _ f.1)
 ·rw[g i,if_neg fun z=>hi.elim (fun h=>xeg (xbb (xbx sa k) z.1) h) fun h=>xeg h (xbk z.2 hnb)]
 ·rw[kk,kk];by_cases ci:sa+k<=i/\i < sb+nb'
  ·rw[if_pos ci];obtain⟨v,ev,mv⟩:=mm (i - (sa+k)) (by rw[lm];exact xec ci.1 ci.2);rw[zbq ev];by_cases cj:sa+k<=j/\j < sb+nb'
   ·rw[if_pos cj];obtain⟨u,eu,mu⟩:=mm (j - (sa+k)) (by rw[lm];exact xec cj.1 cj.2);rw[zbq eu];exact f.2.at ev eu (xex a2 _)
   ·rw[if_neg cj];exact xbb (mid v mv).2 (hig j (xbz fun z=>cj ⟨xbb ci.1 a2,z⟩) a3)
  ·rw[if_neg ci];by_cases ci2:i < sa+k
   ·have h1:=low i a1 ci2;by_cases cj:sa+k<=j/\j < sb+nb'
    ·rw[if_pos cj];obtain⟨u,eu,mu⟩:=mm (j - (sa+k)) (by rw[lm];exact xec cj.1 cj.2);rw[zbq eu];exact xbb h1 (mid u mu).1
    ·rw[if_neg cj];by_cases cj2:j < sa+k
     ·exact upA i j a1 a2 (xhj cj2 hk)
     ·have h2:=hig j (xbz fun z=>cj ⟨xbz cj2,z⟩) a3;have h3:R y0<=R xl:=by
       have s0:=xbb (xbx _ _) hs1;have h4:=c1.2.2 (sb - 1 - sa) (xei hs1) (xec s0 s1);rw[xci s0,zds el] at h4;exact xbu h4
      exact xbb h1 (xbb h3 h2)
   ·have hi2:sb+nb'<=i:=xbz fun z=>ci ⟨xbz ci2,z⟩
    rw[if_neg fun z=>xeg (xbb hi2 a2) z.2];exact upB i j (xbb (xbx _ _) hi2) a2 a3
end
section
variable {prog:Program}{w:World}{A:Around}{E:Value->Shared->Prop}{s:Shared}{κ:SortKind}{a₀:Array Keyed}{R:Keyed->Nat}
theorem zbkg {x st:SortSt}{Q:Unit->SortSt->Prop}(h:Q () x):wpS (model prog w) A E s (set x:StateT SortSt Sem PUnit) Q st:=by
 unfold wpS;rw[StateT.run_set];exact xbl ⟨rfl,h⟩
theorem zsh {i sa na pw sb nb pw':Nat}{st:SortSt}{Q:Bool->SortSt->Prop}(O:Orc prog w A s κ a₀ R)(b:B κ a₀ st)(p1:(pendingOf st)[i]?=some (sa,na,pw))(p2:(pendingOf st)[i+1]?=some (sb,nb,pw'))(hsb:sb=sa+na)(hna:1<=na)(hnb:1<=nb)(hz:sb+nb<=a₀.size)
  (upA:UpA R (arrOf st) sa sb)(upB:UpA R (arrOf st) sb (sb+nb))
  (h:∀st',B κ a₀ st'->pendingOf st'=((pendingOf st).setIfInBounds i (sa,na+nb,pw)).eraseIdxIfInBounds (i+1)->Out (arrOf st') (arrOf st) sa (sb+nb)->UpA R (arrOf st') sa (sb+nb)->Q true st'):wpS (model prog w) A E s (mergeAt' i) Q st:=by
 have hsz:=b.size;have bs:sb < a₀.size:=xbk (xgo hnb) hz;refine xbj (xgt ?_);dsimp only;have q1:(sortPriv% PySem.Builtin.SortState.pending) st=pendingOf st:=rfl;rw[q1,p1,p2];dsimp only;refine xbj (zbkg ?_);obtain⟨y0,e0,my0⟩:=b.mem (i:=sb) bs;have inA:∀q,q < a₀.size->∃x,(arrOf st)[q]?=some x/\x∈a₀.toList:=fun q hq=>b.mem hq
 refine xbj (zko e0 ?_);refine xbj (zfq O b.kind my0 (fun q hq=>inA (sa+q) (xhj (xfi (xdy hq sa) hsb.symm) bs)) hna (by rw[← hsb];exact upA) fun k c1=>?_);dsimp only;have hk:=c1.1;have c1':Cut false R y0 (arrOf st) sa (sb - sa) k:=by rw[show sb - sa=na from by rw[hsb,xct]];exact c1
 by_cases d1:na - k=0
 ·rw[if_pos (by simpa using d1)];refine xbn (h _ ⟨b.perm,b.kind,b.failed⟩ rfl (Out.refl _ _ _) fun p q a1 a2 a3=>?_);by_cases z1:q < sb
  ·exact upA p q a1 a2 z1
  ·by_cases z2:p < sb
   ·have h1:=c1.2.1 (p - sa) (xbk (xdo a1 (xfi z2 hsb)) (Nat.le_of_sub_eq_zero d1));rw[xci a1] at h1;have h2:=upB sb q (xbg _) (xbz z1) a3;rw[zds e0] at h2;exact xbb h1 h2
   ·exact upB p q (xbz z2) a2 a3
 ·rw[if_neg (by simpa using d1)];have hk2:sa+k < sb:=xfi (xdy (xfg fun z=>d1 (Nat.sub_eq_zero_of_le z)) sa) hsb.symm;have s1:sb - 1 < sb:=xgw (xis hk2) Nat.one_pos;obtain⟨xl,el,mxl⟩:=inA (sb - 1) (xhj s1 bs);have el':(arrOf st)[sa+k+(na - k) - 1]?=some xl:=by rw[Nat.add_assoc,xci hk,← hsb];exact el
  refine xbj (zko el' ?_);refine xbj (zfq O b.kind mxl (fun q hq=>inA (sb+q) (xbk (xdy hq sb) hz)) (xgw hnb Nat.one_pos) upB fun nb' c2=>?_);dsimp only;have hn2:=c2.1;have c2':Cut true R xl (arrOf st) sb (sb+nb - sb) nb':=by rw[xct];exact c2
  by_cases d2:nb'=0
  ·rw[if_pos (by simpa using d2)];refine xbn (h _ ⟨b.perm,b.kind,b.failed⟩ rfl (Out.refl _ _ _) fun p q a1 a2 a3=>?_);subst d2;by_cases z1:q < sb
   ·exact upA p q a1 a2 z1
   ·by_cases z2:p < sb
    ·have h1:=upA p (sb - 1) a1 (xcz z2) s1;rw[zds el] at h1;have h2:=c2.2.2 (q - sb) (xef _) (xdo (xbz z1) a3);rw[xci (xbz z1)] at h2;exact xbb h1 h2
    ·exact upB p q (xbz z2) a2 a3
  ·rw[if_neg (by simpa using d2)];have hn1:1<=nb':=xjy d2;have hez:sb<=(arrOf st).size:=by rw[hsz];exact xbu bs
   have hbz:sb+nb<=(arrOf st).size:=by rw[hsz];exact hz
   have hb2:sb+nb'<=sb+nb:=xcf hn2 sb;have oa:Ord R ((arrOf st).extract (sa+k) sb).toList:=zuv (fun p q a1 a2 a3=>upA p q (xbb (xbx _ _) a1) a2 a3) hez;have ob:Ord R ((arrOf st).extract sb (sb+nb')).toList:=zuv (fun p q a1 a2 a3=>upB p q a1 a2 (xbk a3 hb2)) (xbb hb2 hbz);have ma:∀x∈((arrOf st).extract (sa+k) sb).toList,x∈a₀.toList:=fun x hx=>by
    obtain⟨q,q1,q2,e⟩:=ziz hx;obtain⟨x',e',m'⟩:=inA q (xhj q2 bs);rw[e] at e';cases e';exact m'
   have mb:∀x∈((arrOf st).extract sb (sb+nb')).toList,x∈a₀.toList:=fun x hx=>by
    obtain⟨q,q1,q2,e⟩:=ziz hx;obtain⟨x',e',m'⟩:=inA q (xbk q2 (xbb hb2 hz));rw[e] at e';cases e';exact m'
   have sx:((arrOf st).extract (sa+k) sb).size=sb - (sa+k):=by rw[Array.size_extract,xdv hez]
   have sy:((arrOf st).extract sb (sb+nb')).size=nb':=by rw[Array.size_extract,xdv (xbb hb2 hbz),xct]
   have fst:∀y,((arrOf st).extract sb (sb+nb')).toList[0]?=some y->∀x∈((arrOf st).extract (sa+k) sb).toList,R y<=R x:=fun y hy x hx=>by
    rw[zbdf (by rw[xct];exact hn1),xjk,e0] at hy;cases hy;obtain⟨q,q1,q2,e⟩:=ziz hx;have q0:=xbb (xbx _ _) q1;have:=c1.2.2 (q - sa) (xei q1) (xdo q0 (xfi q2 hsb));rw[xci q0,zds e] at this;exact xbu this
   have lst:∀x,((arrOf st).extract (sa+k) sb).toList[sb - (sa+k) - 1]?=some x->∀y∈((arrOf st).extract sb (sb+nb')).toList,R y<=R x:=fun x hx y hy=>by
    rw[zbdf (xgw (xez hk2) Nat.one_pos),show sa+k+(sb - (sa+k) - 1)=sb - 1 from by rw[← Nat.add_sub_assoc (xez hk2),xci (xbu hk2)],el] at hx;cases hx;obtain⟨q,q1,q2,e⟩:=ziz hy;have:=c2.2.1 (q - sb) (xdo q1 q2);rw[xci q1,zds e] at this;exact xbu this
   have post:∀m st2,SmG st st2\/True->Fin R ((arrOf st).extract (sa+k) sb).toList ((arrOf st).extract sb (sb+nb')).toList m->Mg R (arrOf st) (m.toList.zipIdx.foldl (fun a p=>a.setIfInBounds (sa+k+p.2) p.1) (arrOf st)) sa (sb+nb):=fun m _ _ f =>
    ztl (xbx _ _) hbz hk2 hb2 hn1 upA upB e0 el c1' c2' f
   by_cases d3:na - k<=nb'
   ·rw[if_pos d3];refine xbj (zsf O b.kind ma mb ⟨oa,ob,fun x hx=>lst x (by rw[xcd,sx] at hx;exact hx)⟩ (by show 1<=((arrOf st).extract (sa+k) sb).size;rw[sx];exact xez hk2) (by show 1<=((arrOf st).extract sb (sb+nb')).size;rw[sy];exact hn1) fst fun m st2 sg f=>?_);have mg:=post m st2 (.inr trivial) f;refine xbj (xfu (xbj (xgt ?_)));have a2:arrOf st2=arrOf st:=sg.arr;have f2:failedOf st2=none:=sg.failed.trans b.failed;refine xbn (?_:Q ((failedOf st2).isNone) (setArr st2 (m.toList.zipIdx.foldl (fun a p=>a.setIfInBounds (sa+k+p.2) p.1) (arrOf st2))));rw[f2,a2];exact h _ ⟨mg.perm.trans b.perm,sg.kind.trans b.kind,f2⟩ sg.pend mg.out mg.up
   ·rw[if_neg d3];refine xbj (zsg O b.kind ma mb ⟨oa,ob,fst⟩ (by show 1<=((arrOf st).extract (sa+k) sb).size;rw[sx];exact xez hk2) (by show 1<=((arrOf st).extract sb (sb+nb')).size;rw[sy];exact hn1) (fun x hx=>lst x (by rw[sx] at hx;exact hx)) fun m st2 sg f=>?_);have mg:=post m st2 (.inr trivial) f;refine xbj (xfu (xbj (xgt ?_)));have a2:arrOf st2=arrOf st:=sg.arr;have f2:failedOf st2=none:=sg.failed.trans b.failed;refine xbn (?_:Q ((failedOf st2).isNone) (setArr st2 (m.toList.zipIdx.foldl (fun a p=>a.setIfInBounds (sa+k+p.2) p.1) (arrOf st2))));rw[f2,a2];exact h _ ⟨mg.perm.trans b.perm,sg.kind.trans b.kind,f2⟩ sg.pend mg.out mg.up
end
noncomputable def Segs (R:Keyed->Nat) (xs:Array Keyed):Nat->List (Nat×Nat×Nat)->Nat->Prop
 | s,[],e=>s=e
 | s,p::r,e=>p.1=s/\1<=p.2.1/\UpA R xs s (s+p.2.1)/\Segs R xs (s+p.2.1) r e
section
variable {R:Keyed->Nat}{xs ys:Array Keyed}
theorem Segs.le:∀{l:List (Nat×Nat×Nat)} {s e:Nat},Segs R xs s l e->s+l.length<=e
 | [],s,e,h=>by cases h;simp
 | p::r,s,e,h=>by
  have:=Segs.le h.2.2.2;have:=h.2.1;simp;lia
theorem Segs.append:∀{l m:List (Nat×Nat×Nat)} {s e:Nat},Segs R xs s (l++m) e↔∃k,Segs R xs s l k/\Segs R xs k m e
 | [],m,s,e=>⟨fun h=>⟨s,rfl,h⟩,fun⟨k,h1,h2⟩=>by cases h1;exact h2⟩
 | p::r,m,s,e=>by
  constructor
  ·rintro⟨h1,h2,h3,h4⟩;obtain⟨k,g1,g2⟩:=Segs.append.mp h4;exact⟨k,⟨h1,h2,h3,g1⟩,g2⟩
  ·rintro⟨k,⟨h1,h2,h3,h4⟩,g2⟩;exact⟨h1,h2,h3,Segs.append.mpr ⟨k,h4,g2⟩⟩
theorem UpA.same {a b:Nat}(h:UpA R xs a b)(e:∀i,a<=i->i < b->ys[i]?=xs[i]?):UpA R ys a b:=fun i j a1 a2 a3=>by
 rw[zdl (e i a1 (xcx a2 a3)),zdl (e j (xbb a1 a2) a3)];exact h i j a1 a2 a3
theorem Segs.same:∀{l:List (Nat×Nat×Nat)} {s e:Nat},Segs R xs s l e->(∀i,s<=i->i < e->ys[i]?=xs[i]?)->Segs R ys s l e
 | [],s,e,h,_=>h
 | p::r,s,e,h,k=>by
  have:=Segs.le h.2.2.2;exact⟨h.1,h.2.1,h.2.2.1.same fun i a1 a2=>k i a1 (xbk a2 (xbb (xbx _ _) this)),Segs.same h.2.2.2 fun i a1 a2=>k i (xbb (xbx _ _) a1) a2⟩
theorem Segs.power {s e:Nat}:∀{l m:List (Nat×Nat×Nat)},l.map (fun p=>(p.1,p.2.1))=m.map (fun p=>(p.1,p.2.1))->Segs R xs s l e->Segs R xs s m e:=by
 intro l
 induction l generalizing s with
 | nil=>intro m h k;cases m with
  | nil=>exact k
  | cons=>cases h
 | cons p r ih=>intro m h k;cases m with
  | nil=>cases h
  | cons q t =>
   rw[xbq,xbq] at h;obtain⟨h1,h2⟩:=List.cons.inj h;obtain⟨g1,g2⟩:=Prod.mk.inj h1;obtain⟨k1,k2,k3,k4⟩:=k;rw[g2] at k2 k3 k4;exact⟨g1.symm.trans k1,k2,k3,ih h2 k4⟩
end
section
variable {prog:Program}{w:World}{A:Around}{E:Value->Shared->Prop}{s:Shared}{κ:SortKind}{a₀:Array Keyed}{R:Keyed->Nat}
theorem zxk {l:List (Nat×Nat×Nat)}{i:Nat}(h:i+1 < l.length):∃pre p q post,l=pre++p::q::post/\pre.length=i:=by
 refine⟨l.take i,l[i],l[i+1],l.drop (i+2),?_,by rw[xco];exact xdv (xbu (xeo h))⟩
 conv=>lhs;rw[← xej i l,xcu (xeo h),xcu h]
theorem w_at {i e:Nat}{st:SortSt}{Q:Bool->SortSt->Prop}(O:Orc prog w A s κ a₀ R)(b:B κ a₀ st)(sg:Segs R (arrOf st) 0 (pendingOf st).toList e)(he:e<=a₀.size)(hi:i+1 < (pendingOf st).size)
  (h:∀st',B κ a₀ st'->Segs R (arrOf st') 0 (pendingOf st').toList e->(pendingOf st').size+1=(pendingOf st).size->(∀k,e<=k->(arrOf st')[k]?=(arrOf st)[k]?)->Q true st'):wpS (model prog w) A E s (mergeAt' i) Q st:=by
 obtain⟨pre,p,q,post,el,hl⟩:=zxk (l:=(pendingOf st).toList) (i:=i) (by simpa using hi);obtain⟨sa,na,pw⟩:=p;obtain⟨sb,nb,pw'⟩:=q;rw[el] at sg;obtain⟨k,g1,g2⟩:=Segs.append.mp sg;obtain⟨h1,h2,h3,h4,h5,h6,h7⟩:=g2;dsimp only at h1 h2 h3 h4 h5 h6 h7;subst h1;have l7:=Segs.le h7;have l1:=Segs.le g1;have p1:(pendingOf st)[i]?=some (sa,na,pw):=by rw[← xcl,el,xcr (xdf hl),hl,xig];rfl
 have p2:(pendingOf st)[i+1]?=some (sb,nb,pw'):=by rw[← xcl,el,xcr (xbb (xdf hl) (xbx i 1)),hl,xct];rfl
 refine zsh O b p1 p2 h4 h2 h5 (by lia) (by rw[h4];exact h3) (by rw[h4];exact h6) fun st' b' pe ou up=>?_
 have pl:(pendingOf st').toList=pre++(sa,na+nb,pw)::post:=by
  rw[pe];rw[Array.toList_eraseIdxIfInBounds,Array.toList_setIfInBounds,el];rw[List.set_append_right _ _ (xdf hl),hl,xig,List.set_cons_zero,List.eraseIdx_append_of_length_le (xbb (xdf hl) (xbx i 1)),hl,xct]
  rfl
 have keep:∀j,j < sa\/sb+nb<=j->(arrOf st')[j]?=(arrOf st)[j]?:=ou
 refine h st' b' ?_ ?_ fun j hj=>keep j (.inr (by lia))
 ·rw[pl];refine Segs.append.mpr ⟨sa,g1.same fun j a1 a2=>keep j (.inl a2),rfl,by show 1<=na+nb;lia,?_,?_⟩
  ·show UpA R (arrOf st') sa (sa+(na+nb));rw[show sa+(na+nb)=sb+nb by lia];exact up
  ·show Segs R (arrOf st') (sa+(na+nb)) post e;rw[show sa+(na+nb)=sa+na+nb by lia];exact h7.same fun j a1 a2=>keep j (.inr (by lia))
 ·have e1:(pendingOf st').size=(pendingOf st').toList.length:=by simp
  have e2:(pendingOf st).size=(pendingOf st).toList.length:=by simp
  rw[e1,e2,pl,el];simp only[xbp,xbv];lia
theorem zbhb {c:Prop}[Decidable c]{a b n:Nat}(h1:a+1 < n)(h2:b+1 < n):(if c then a else b)+1 < n:=by split<;>assumption
theorem zvf {g:Nat×Nat×Nat->Nat×Nat}{f:Nat×Nat×Nat->Nat×Nat×Nat}(h:∀x,g (f x)=g x):∀(l:List (Nat×Nat×Nat)) (i:Nat),(l.modify i f).map g=l.map g
 | [],i=>by simp
 | x::l,0=>by simp[h]
 | x::l,i+1=>by simp[zvf h l i]
theorem Segs.mod {xs:Array Keyed}{s e:Nat}{l:List (Nat×Nat×Nat)}(h:Segs R xs s l e)(i c:Nat):Segs R xs s (l.modify i fun x=>(x.1,x.2.1,c)) e :=
 h.power (zvf (g:=fun p=>(p.1,p.2.1)) (f:=fun x=>(x.1,x.2.1,c)) (fun _=>rfl) l i).symm
theorem zbff {st:SortSt}{Q:Unit->SortSt->Prop}(O:Orc prog w A s κ a₀ R)(b:B κ a₀ st)(pe:pendingOf st=#[])(h2:2<=a₀.size)
  (h:∀st',B κ a₀ st'->UpA R (arrOf st') 0 a₀.size->Q () st'):wpS (model prog w) A E s sortRuns' Q st:=by
 have hz:=b.size;rw[sortRuns'_eq];refine xbj (xgt ?_);dsimp only;rw[hz]
 refine xbj (xev (xdm (I:=fun x c st'=>∃lo,c=(none,lo)/\B κ a₀ st'/\Segs R (arrOf st') 0 (pendingOf st').toList lo/\lo<=a₀.size/\x<=lo)
  (Q:=fun c st'=>c=(none,a₀.size)/\B κ a₀ st'/\Segs R (arrOf st') 0 (pendingOf st').toList a₀.size) ?_ ?_ ⟨0,rfl,b,by rw[pe];rfl,by lia,by lia⟩) ?_)
 ·rintro x c st1 x1 x2 ⟨lo,rfl,b1,sg1,hlo,hx⟩;dsimp only;by_cases c1:lo ≥ a₀.size
  ·rw[if_pos c1];have:lo=a₀.size:=by lia
   subst this;exact xbn ⟨rfl,b1,sg1⟩
  rw[if_neg c1];refine xbj (zbab O b1 (by lia) (by lia) fun m st2 m1 m2 b2 sm2 up2=>?_);dsimp only;have sg2:Segs R (arrOf st2) 0 (pendingOf st2).toList lo:=by
   rw[sm2.pend];exact sg1.same fun i a1 a2=>sm2.out i (.inl a2)
  by_cases c2:m < minRun' a₀.size a₀.size 0
  ·rw[if_pos c2];refine xbj (xje (xhw ⟨rfl,?_⟩));refine xbj (zbkh O b2 (by lia) m1 (by lia) up2 fun st3 b3 sm3 up3=>?_);have sg3:Segs R (arrOf st3) 0 (pendingOf st3).toList lo:=by
    rw[sm3.pend];exact sg2.same fun i a1 a2=>sm3.out i (.inl a2)
   have hn1:1<=min (a₀.size - lo) (minRun' a₀.size a₀.size 0):=by lia
   have hn2:lo+min (a₀.size - lo) (minRun' a₀.size a₀.size 0)<=a₀.size:=by lia
   simp only[Bool.not_true,xdg,xfb];generalize min (a₀.size - lo) (minRun' a₀.size a₀.size 0)=n at up3 hn1 hn2 sm3 ⊢;refine xbj (xgt ?_);cases hb:(pendingOf st3).back? with
   | none =>
    dsimp only;refine xbj (xfu (xbn ⟨lo+n,rfl,⟨b3.perm,b3.kind,b3.failed⟩,?_,hn2,by lia⟩));show Segs R (arrOf st3) 0 ((pendingOf st3).push (lo,n,0)).toList (lo+n);rw[xfa];exact Segs.append.mpr ⟨lo,sg3,rfl,hn1,up3,rfl⟩
   | some p =>
    obtain⟨s1,n1,p1⟩:=p;dsimp only;refine xbj (xev (xdm (I:=fun _ c st'=>c=(none,())/\B κ a₀ st'/\Segs R (arrOf st') 0 (pendingOf st').toList lo/\UpA R (arrOf st') lo (lo+n)) (Q:=fun c st'=>c=(none,())/\B κ a₀ st'/\Segs R (arrOf st') 0 (pendingOf st').toList lo/\UpA R (arrOf st') lo (lo+n)) ?_ (fun _ _ hh=>hh) ⟨rfl,b3,sg3,up3⟩) ?_)
    ·rintro x' c st4 _ _ ⟨rfl,b4,sg4,up4⟩;refine xbj (xgt ?_);by_cases hs:(pendingOf st4).size > 1
     ·rw[if_pos hs,getElem?_pos (pendingOf st4) ((pendingOf st4).size - 2) (by lia)];obtain⟨s2,n2,p2⟩:=(pendingOf st4)[(pendingOf st4).size - 2]'(by lia);dsimp only;split
      ·exact xbn ⟨rfl,b4,sg4,up4⟩
      ·refine xbj (w_at O b4 sg4 hlo (by lia) fun st5 b5 sg5 _ k5=>?_);exact xbn ⟨rfl,b5,sg5,up4.same fun i a1 a2=>k5 i a1⟩
     ·rw[if_neg hs];exact xbn ⟨rfl,b4,sg4,up4⟩
    ·rintro c st4 ⟨rfl,b4,sg4,up4⟩;dsimp only;refine xbj (xfu (xbj (xfu (xbn ⟨lo+n,rfl,⟨b4.perm,b4.kind,b4.failed⟩,?_,hn2,by lia⟩))));refine(?_:Segs R (arrOf st4) 0 (((pendingOf st4).modify ((pendingOf st4).size - 1) fun x=>(x.1,x.2.1,_)).push (lo,n,0)).toList (lo+n));rw[xfa,Array.toList_modify];exact Segs.append.mpr ⟨lo,sg4.mod _ _,rfl,hn1,up4,rfl⟩
  ·rw[if_neg c2];have b3:=b2;have sg3:=sg2;have up3:=up2;have hn1:=m1;have hn2:lo+m<=a₀.size:=by lia
   generalize st2=st3 at b3 sg3 up3 ⊢;generalize m=n at up3 hn1 hn2 ⊢;refine xbj (xgt ?_);cases hb:(pendingOf st3).back? with
   | none =>
    dsimp only;refine xbj (xfu (xbn ⟨lo+n,rfl,⟨b3.perm,b3.kind,b3.failed⟩,?_,hn2,by lia⟩));show Segs R (arrOf st3) 0 ((pendingOf st3).push (lo,n,0)).toList (lo+n);rw[xfa];exact Segs.append.mpr ⟨lo,sg3,rfl,hn1,up3,rfl⟩
   | some p =>
    obtain⟨s1,n1,p1⟩:=p;dsimp only;refine xbj (xev (xdm (I:=fun _ c st'=>c=(none,())/\B κ a₀ st'/\Segs R (arrOf st') 0 (pendingOf st').toList lo/\UpA R (arrOf st') lo (lo+n)) (Q:=fun c st'=>c=(none,())/\B κ a₀ st'/\Segs R (arrOf st') 0 (pendingOf st').toList lo/\UpA R (arrOf st') lo (lo+n)) ?_ (fun _ _ hh=>hh) ⟨rfl,b3,sg3,up3⟩) ?_)
    ·rintro x' c st4 _ _ ⟨rfl,b4,sg4,up4⟩;refine xbj (xgt ?_);by_cases hs:(pendingOf st4).size > 1
     ·rw[if_pos hs,getElem?_pos (pendingOf st4) ((pendingOf st4).size - 2) (by lia)];obtain⟨s2,n2,p2⟩:=(pendingOf st4)[(pendingOf st4).size - 2]'(by lia);dsimp only;split
      ·exact xbn ⟨rfl,b4,sg4,up4⟩
      ·refine xbj (w_at O b4 sg4 hlo (by lia) fun st5 b5 sg5 _ k5=>?_);exact xbn ⟨rfl,b5,sg5,up4.same fun i a1 a2=>k5 i a1⟩
     ·rw[if_neg hs];exact xbn ⟨rfl,b4,sg4,up4⟩
    ·rintro c st4 ⟨rfl,b4,sg4,up4⟩;dsimp only;refine xbj (xfu (xbj (xfu (xbn ⟨lo+n,rfl,⟨b4.perm,b4.kind,b4.failed⟩,?_,hn2,by lia⟩))));refine(?_:Segs R (arrOf st4) 0 (((pendingOf st4).modify ((pendingOf st4).size - 1) fun x=>(x.1,x.2.1,_)).push (lo,n,0)).toList (lo+n));rw[xfa,Array.toList_modify];exact Segs.append.mpr ⟨lo,sg4.mod _ _,rfl,hn1,up4,rfl⟩
 ·rintro c st1 ⟨lo,rfl,b1,sg1,hlo,hx⟩;have:lo=a₀.size:=by lia
  subst this;exact⟨rfl,b1,sg1⟩
 ·rintro c st1 ⟨rfl,b1,sg1⟩;dsimp only
  refine xbj (xev (xdm (I:=fun x c st'=>c=(none,())/\B κ a₀ st'/\Segs R (arrOf st') 0 (pendingOf st').toList a₀.size/\(pendingOf st').size+x<=a₀.size)
   (Q:=fun c st'=>c=(none,())/\B κ a₀ st'/\Segs R (arrOf st') 0 (pendingOf st').toList a₀.size/\(pendingOf st').size<=1) ?_ ?_ ⟨rfl,b1,sg1,by have:=sg1.le;simp at this;lia⟩) ?_)
  ·rintro x c st2 x1 x2 ⟨rfl,b2,sg2,hp⟩;refine xbj (xgt ?_);by_cases c1:(pendingOf st2).size<=1
   ·rw[if_pos c1];exact xbn ⟨rfl,b2,sg2,c1⟩
   rw[if_neg c1];refine xbj (w_at O b2 sg2 (xbg _) ?_ fun st3 b3 sg3 p3 _=>xbn ⟨rfl,b3,sg3,by lia⟩);exact zbhb (by lia) (by lia)
  ·rintro c st2 ⟨rfl,b2,sg2,hp⟩;exact⟨rfl,b2,sg2,by lia⟩
  ·rintro c st2 ⟨rfl,b2,sg2,hp⟩;refine xbn (h st2 b2 ?_);cases hl:(pendingOf st2).toList with
   | nil=>rw[hl] at sg2;have:0=a₀.size:=sg2;lia
   | cons p r =>
    have:r=[]:=by
     have e2:(pendingOf st2).size=(pendingOf st2).toList.length:=by simp
     rw[e2,hl,xbv] at hp;exact List.length_eq_zero_iff.mp (by lia)
    subst this;rw[hl] at sg2;obtain⟨_,_,g3,g4⟩:=sg2;have g4':0+p.2.1=a₀.size:=g4;rw[g4'] at g3;exact g3
end
end TS
namespace Srt
open PySem PySem.W PyProof.Rows
theorem zos {α β:Type}(f:α->β):∀{l m':List β},l.Perm m'->∀m:List α,m'=m.map f->∃p:List α,p.Perm m/\l=p.map f:=by
 intro l m' h
 induction h with
 | nil=>exact fun m e=>⟨[],by rw[List.map_eq_nil_iff.mp e.symm],rfl⟩
 | cons x _ ih =>
  intro m e;cases m with
  | nil=>cases e
  | cons y m =>
   rw[xbq] at e;injection e with e1 e2
   obtain⟨p,p1,p2⟩:=ih m e2;exact⟨y::p,p1.cons y,by rw[xbq,← p2,e1]⟩
 | swap x y l =>
  intro m e
  match m,e with
  | a::b::m,e =>
   rw[xbq,xbq] at e;injection e with e1 e2
   injection e2 with e2 e3
   exact⟨b::a::m,.swap _ _ _,by rw[xbq,xbq,e1,e2,e3]⟩
 | trans _ _ ih1 ih2 =>
  intro m e;obtain⟨p,p1,p2⟩:=ih2 m e;obtain⟨q,q1,q2⟩:=ih1 p p2;exact⟨q,q1.trans p1,q2⟩
noncomputable def Coh (r:Nat->Nat) (xs:List Value):Prop:=∀i j,i < xs.length->j < xs.length->xs.getD i Value.none=xs.getD j Value.none->r i=r j
open Classical in
noncomputable def rankV (r:Nat->Nat) (xs:List Value) (x:Keyed):Nat:=if h:∃i,i < xs.length/\xs.getD i Value.none=x.1 then r h.choose else 0
theorem zly {r:Nat->Nat}{xs:List Value}(coh:Coh r xs){x:Keyed}{i:Nat}(hi:i < xs.length)(e:xs.getD i Value.none=x.1):rankV r xs x=r i:=by
 have h:∃i,i < xs.length/\xs.getD i Value.none=x.1:=⟨i,hi,e⟩
 unfold rankV;rw[dif_pos h];exact coh _ _ h.choose_spec.1 hi (h.choose_spec.2.trans e.symm)
theorem zpj (xs:List Value):(xs.toArray.zip xs.toArray).toList=(List.range xs.length).map fun i=>((xs.getD i Value.none,xs.getD i Value.none):Keyed):=by
 rw[Array.toList_zip];apply List.ext_getElem
 ·simp
 ·intro i h1 h2;have h3:i < xs.length:=by simpa using h2
  simp[xbh,h3]
section
variable {P:Program}{w:World}{B:Around}{E:Value->Shared->Prop}{st:Shared}
theorem zxj {r:Nat->Nat}{xs:List Value}{κ:SortKind}{sg:Shared}(h2:2<=xs.length)(coh:Coh r xs)
  (cmp:∀i j C,i < xs.length->j < xs.length->C (lt r i j) sg->kas_ask P w B κ xs i j C sg) :
  wpAny (model P w) B ((sortRuns').run (SortSt.mk' κ (xs.toArray.zip xs.toArray) #[] 7 none)) (fun y z=>∃p:Array Nat,(p.Perm (List.toArray (List.range xs.length))/\Up r p xs.length)/\(arrOf y.2).map (·.2)=outOf xs p/\failedOf y.2=none/\z=sg) E sg:=by
 have sz:(xs.toArray.zip xs.toArray).size=xs.length:=by simp
 have O:TS.Orc P w B sg κ (xs.toArray.zip xs.toArray) (rankV r xs):=fun x hx y hy C hC=>by
  rw[zpj] at hx hy;obtain⟨i,hi,rfl⟩:=xcb.mp hx;obtain⟨j,hj,rfl⟩:=xcb.mp hy;rw[xcj] at hi hj;rw[zly coh hi rfl,zly coh hj rfl] at hC;exact cmp i j C hi hj hC
 have run:=TS.zbff (E:=E) (Q:=fun _ y=>∃p:Array Nat,(p.Perm (List.toArray (List.range xs.length))/\Up r p xs.length)/\(arrOf y).map (·.2)=outOf xs p/\failedOf y=none) O (st:=SortSt.mk' κ (xs.toArray.zip xs.toArray) #[] 7 none) ⟨.refl _,rfl,rfl⟩ rfl (by rw[sz];exact h2) fun y b up=>by
  obtain⟨l,l1,l2⟩:=zos (fun i=>((xs.getD i Value.none,xs.getD i Value.none):Keyed)) (xff.mp b.perm) _ (zpj xs);have ll:l.length=xs.length:=by rw[l1.length_eq,xkd]
  have mem:∀k,(hk:k < l.length)->l[k] < xs.length:=fun k hk=>xcj.mp (l1.mem_iff.mp (xem hk))
  have key:∀k,k < xs.length->TS.kA (rankV r xs) (arrOf y) k=At r l.toArray k:=fun k hk=>by
   have hk':k < l.length:=by lia
   have e:(arrOf y)[k]?=some (xs.getD l[k] Value.none,xs.getD l[k] Value.none):=by
    rw[← xcl,l2,xck,xbe hk']
    rfl
   rw[TS.zds e,zly coh (mem k hk') rfl];unfold At;simp[hk']
  refine⟨l.toArray,⟨?_,fun i j hij hj=>?_⟩,?_,b.failed⟩
  ·exact xff.mpr (by simpa using l1)
  ·rw[← key i (by lia),← key j hj];exact up i j (xef _) hij (by rw[sz];exact hj)
  ·unfold outOf;apply Array.toList_inj.mp;rw[Array.toList_map,l2,xdr]
   rfl
 exact xdz run (fun y z hz=>by
  obtain⟨rfl,p,a,b,c⟩:=hz
  exact⟨p,a,b,c,rfl⟩) fun _ _ x=>x
theorem zkr (r:Nat->Nat){d:Addr}{xs:List Value}{k:Nat}{W:Fin->Shared->Prop}(e0:st.heap.get? d=some (seqObj "list" xs.toArray k))(few:xs.length<=sizeLine)(coh:Coh r xs)
  (ask:2<=xs.length->Answers P w B r xs {st with heap:=midHeap st.heap d xs})
  (fin:∀p:Array Nat,p.Perm (List.toArray (List.range xs.length))->Up r p xs.length->W (.done (.ret .none)) {st with heap:=sortedHeap st.heap d xs (outOf xs p)}) :
  wpAny (model P w) B (Builtin.«list.sort» ⟨[.ref d],[]⟩) W E st:=by
 obtain⟨c, ec⟩:∃ c,(st.heap.update d (Obj.mapSeq fun _=>(#[]:Array Value))).get? d=some (seqObj "list" #[] c):=⟨_, get?_update_seq e0 fun _=>#[]⟩
 have em:(midHeap st.heap d xs).get? d=some (seqObj "list" #[] c):=xbo _ (xbo _ ec)
 have szs:xs.toArray.size=xs.length:=xbw;rw[list_sort_plain];refine xba (listItems_at e0 rfl (xba (listUpdate_at e0 rfl (xba (seqEpoch_at ec rfl (xba (wpAny_newTuple (xba (wpAny_newList (xen ?_) (xef _))) (few))))) (by rw[szs];exact few) (xef _))));show wpAny (model P w) B _ W E {st with heap:=midHeap st.heap d xs};dsimp only;by_cases two:xs.toArray.size < 2
 ·rw[if_pos two,if_pos two];rw[szs] at two;have eo:((arrOf (SortSt.mk' general' (xs.toArray.zip xs.toArray) #[] 7 none)).map (·.2))=outOf xs (List.toArray (List.range xs.length)):=zso two
  refine xba (xbl (by
   rw[StateT.run_pure];refine xba (xbl (xba (seqEpoch_at em rfl (xba (listUpdate_at em rfl ?_ (xef _) ?_)))))
   ·rw[if_neg (by simp)];refine xbl ?_;rw[eo];exact fin _ (.refl _) fun i j hij hj=>xdf (congrArg (At r _) (by lia))
   ·rw[eo];refine xfk (xbb (xdf ?_) (few));unfold outOf
    simp))
 ·rw[if_neg two,if_neg two];rw[szs] at two;obtain⟨κ,kd,cmp⟩:=ask (by lia);refine xba (xdz (kd (fun κ' z=>κ'=κ/\z={st with heap:=midHeap st.heap d xs}) ⟨rfl,rfl⟩) (fun κ' z hz=>?_) fun _ _ x=>x.elim);obtain⟨rfl,rfl⟩:=hz;have run:=zxj (E:=E) (r:=r) (xs:=xs) (κ:=κ') (sg:={st with heap:=midHeap st.heap d xs}) (by lia) coh cmp;refine xba (xdz run (fun yy z hz=>?_) fun _ _ x=>x);obtain⟨⟨⟩,y⟩:=yy;obtain⟨p,hp,ho,hf,rfl⟩:=hz;dsimp only at ho hf ⊢;refine xba (seqEpoch_at em rfl (xba (listUpdate_at em rfl ?_ (xef _) ?_)))
  ·rw[hf,if_neg (by simp),ho];exact xbl (fin p hp.1 hp.2)
  ·rw[ho];refine xfk (xbb (xdf ?_) (few));unfold outOf;rw[xbw,xbd,xcd,hp.1.size_eq];simp
theorem zln (r:Nat->Nat){d:Addr}{xs:List Value}{W:Value->Shared->Prop}(isl:st.heap.IsList d xs.toArray)(few:xs.length<=sizeLine)(coh:Coh r xs)
  (ask:2<=xs.length->∀g:Heap,(∀b ob,st.heap.get? b=some ob->g.get? b=some ob)->Answers P w B.in1.in1 r xs {st with heap:=g})
  (fin:∀p:Array Nat,p.Perm (List.toArray (List.range xs.length))->Up r p xs.length->W (.ref (st.heap.objs.size+1)) {st with heap:=sortedAll st.heap xs (outOf xs p)}) :
  wpAny (model P w) B (call (.builtin "sorted") [.ref d]) W E st:=by
 let g0:Heap:=(st.heap.push (seqObj "list" #[] 0)).update st.heap.objs.size (Obj.mapSeq (·++xs.toArray))
 have sz:g0.objs.size=st.heap.objs.size+1:=(Heap.size_update ..).trans (size_push' _ _);have new:(g0.push (seqObj "list" xs.toArray 0)).get? (st.heap.objs.size + 1)=some (seqObj "list" xs.toArray 0):=by
  have z:=xce g0 (o:=seqObj "list" xs.toArray 0) rfl
  rw[sz] at z;exact z
 have old:∀ b ob, st.heap.get? b=some ob->(g0.push (seqObj "list" xs.toArray 0)).get? b=some ob:=fun b ob e=>by
  have lt:=xbt e;exact xbo _ ((Heap.get?_update_ne _ _ _ _ (xca lt)).trans (xbo _ e))
 have ar:argsOk "sorted" ⟨[.ref d],[]⟩:=args_sorted1 _
 refine Calls.call_function_entry kind_sorted plain_sorted entry_sorted ar ?_;unfold Builtin.«sorted»;refine xba (m:=checkCount "sorted" 1 1 _) (xbl (xba (collect_list isl (xba (wpAny_newList ?_ (few))) (few))))
 show wpAny _ _ _ _ _ { st with heap:=g0.push (seqObj "list" xs.toArray 0) }
 have esz:(Value.ref g0.objs.size)=Value.ref (st.heap.objs.size+1):=by rw[sz]
 rw[show((st.heap.push (seqObj "list" #[] 0)).update st.heap.objs.size (Obj.mapSeq (·++xs.toArray))).objs.size=st.heap.objs.size + 1 from sz]
 refine xba (xen (xfh slot_list_sort ⟨_, new, rfl⟩ entry_list_sort (zkr r (st:={ st with heap:=g0.push (seqObj "list" xs.toArray 0) }) new few coh (fun two=>?_) fun p p1 p2=>⟨_, rfl, xbl ⟨_, rfl, fin p p1 p2⟩⟩) (args_list_sort _)))
 exact ask two _ fun b ob e=>ziy (xca (xiu (xbt e))) (old b ob e)
theorem zor {T:String}{a d:Addr}{n:Nat}{It:Nat->Value->Prop}{OK:Heap->Prop}(S:KdlSrc P w T a d n It OK)(hh:B.handled=none)(ok:OK st.heap)(few:n<=sizeLine){W:Value->Shared->Prop}
  (ask:∀xs:List Value,xs.length=n->(∀(j:Nat) (v:Value),xs[j]?=some v->It j v)->∃r:Nat->Nat,Coh r xs/\(2<=n->∀(g:Heap) (tk:Nat),(∀b ob,st.heap.get? b=some ob->g.get? b=some ob)->Answers P w B.in1.in1 r xs {st with heap:=g,toks:=tk}) /\
   ∀(p:Array Nat) (q:Addr) (g:Heap) (tk c:Nat), p.Perm (List.toArray (List.range xs.length))->Up r p xs.length->(∀ b ob, st.heap.get? b=some ob->g.get? b=some ob)->(∀ b ob, st.heap.get? b=some ob->b≠q)->g.get? q=some (seqObj "list" (outOf xs p) c)->W (.ref q) { st with heap:=g, toks:=tk }) :
  wpAny (model P w) B (call (.builtin "sorted") [.ref a]) W E st:=by
 have ar:argsOk "sorted" ⟨[.ref a],[]⟩:=args_sorted1 _
 refine Calls.call_function_entry kind_sorted plain_sorted entry_sorted ar ?_;unfold Builtin.«sorted»;refine xba (m:=checkCount "sorted" 1 1 _) (xbl (xba (kdu_collect (A:=B.in1) S hh ok (few) fun g tk acc keep items=>?_)))
 have len:acc.toList.length=n:=by rw[xcd];exact items.1
 obtain⟨r,coh,an,fin⟩:=ask acc.toList len (fun j v e=>items.2 j v (by rw[← xcl];exact e));refine xba (wpAny_newList ?_ (by rw[len];exact few));have new:(g.push (seqObj "list" acc.toList.toArray 0)).get? g.objs.size=some (seqObj "list" acc.toList.toArray 0):=xce g rfl
 have old:∀ b ob, st.heap.get? b=some ob->(g.push (seqObj "list" acc.toList.toArray 0)).get? b=some ob:=fun b ob e=>xbo _ (keep b ob e)
 have lt:∀b ob,st.heap.get? b=some ob->b≠g.objs.size:=fun b ob e=>xca (xbt (keep b ob e))
 show wpAny _ _ _ _ _ { st with heap:=g.push (seqObj "list" acc.toList.toArray 0), toks:=tk }
 refine xba (xen (xfh slot_list_sort ⟨_, new, rfl⟩ entry_list_sort (zkr r (st:={ st with heap:=g.push (seqObj "list" acc.toList.toArray 0), toks:=tk }) new (by rw[len]; exact few) coh (fun two=>?_) fun p p1 p2=>⟨_, rfl, xbl ⟨_, rfl, ?_⟩⟩) (args_list_sort _)))
 ·exact an (by lia) _ tk fun b ob e=>ziy (lt b ob e) (old b ob e)
 ·obtain⟨c,ec⟩:=sortedHeap_at (n:=0) (vs:=acc.toList) (out:=outOf acc.toList p) new;refine fin p g.objs.size _ tk c p1 p2 (fun b ob e=>?_) ?_ ec
  ·rw[sortedHeap_old (lt b ob e) (xbt (old b ob e))];exact old b ob e
  ·exact lt
end
end Srt
namespace L2
open PySem PySem.Spec PyProof.Rows PySem.W
theorem small10000 {n:Nat}(h:n<=1000000):n<=sizeLine:=xbb h (by rw[xja];lia)
theorem zjc:∀{us:List Value} {a b:List Int},IntsAre us a->IntsAre us b->a=b
 | _,_,_,.nil,.nil=>rfl
 | _,_,_,.cons x t r,.cons _ _ r'=>by rw[zjc r r']
theorem zri {g:Heap}{ps:List (Addr×List Int)}(tup:TupsG g ps):Srt.Coh (Srt.rank (ps.map (·.2))) (ps.map fun p=>Value.ref p.1):=fun i j hi hj e=>by
 rw[xbd] at hi hj;have ei:ps[i]?=some ps[i]:=xbe hi;have ej:ps[j]?=some ps[j]:=xbe hj;rw[zk (fun p:Addr×List Int=>Value.ref p.1) _ ei,zk (fun p:Addr×List Int=>Value.ref p.1) _ ej] at e;injection e with e
 obtain⟨us,o,n,a1,a2,a3,a4⟩:=tup _ (xem hi);obtain⟨us2,o2,n2,b1,b2,b3,b4⟩:=tup _ (xem hj);rw[e,b2] at a2;injection a2 with a2
 subst a2;rw[b4] at a4;injection a4 with a4 _
 have a5:us2=us:=by simpa using a4
 subst a5;have d:=zjc a1 b1;unfold Srt.rank;rw[zk (fun p:Addr×List Int=>p.2) _ ei,zk (fun p:Addr×List Int=>p.2) _ ej,d]
noncomputable def rSortedAL (K:Fg):List V->Hp->VK->Prop:=fun xs H Q=>∃(l:Addr) (ps:List (Addr×List Int)),xs=[.ref l]/\SqL K H l (ps.map fun p=>V.ref p.1)/\ps.length<=1000000/\TupsAt K H ps /\
 ∀(q:Addr) (qs:List (Addr×List Int)),H q=none->qs.Perm ps->(qs.map (·.2)).Pairwise (fun a b=>HT.lexLt b a=false)->Q (.ref q) (upd H q (.lst (qs.map fun p=>V.ref p.1)))
noncomputable def rSortedDAL:List V->Hp->VK->Prop:=fun xs H Q=>∃(a:Addr) (kvs:List (List Key×V)) (ks:List (List Int)),xs=[.ref a]/\Rd H a (.dT kvs)/\kvs.map (·.1)=ks.map (fun ns=>ns.map Sum.inl)/\ks.length<=1000000 /\
 ∀(q:Addr) (qs:List (Addr×List Int)),H q=none->(qs.map (·.2)).Perm ks->(qs.map (·.2)).Pairwise (fun x y=>HT.lexLt y x=false)->(∀p∈qs,H p.1=some (.tup (p.2.map V.int)))->Q (.ref q) (upd H q (.lst (qs.map fun p=>V.ref p.1)))
section
variable {X:Cx}
theorem zlh (hu:X.A.units + 64 < cLine):CallR X (.builtin "sorted") (rSortedAL X.K):=by
 intro aA s σ H xs us Q I r h;obtain⟨l,ps,rfl,hl,h64,ht,q⟩:=h;obtain⟨u,rfl,ru⟩:=vals1 r;cases ru;obtain⟨its,rv,pl,hz⟩:=I.list hl;have eits:its=ps.map fun p=>Value.ref p.1:=by
  have e:(ps.map fun p=>V.ref p.1)=(ps.map (·.1)).map V.ref:=by rw[xdr];rfl
  rw[e] at rv;rw[znc rv,xdr]
  rfl
 subst eits;have tup:∀g:Heap,(∀b o,s.heap.get? b=some o->g.get? b=some o)->TupsG g ps:=fun g keep p hp=>by
  obtain⟨us,rv',⟨o,b2,b3,n,b4⟩,_⟩:=I.tuple (ht p hp);exact⟨us,o,n,zfj rv',keep _ _ b2,b3,b4⟩
 refine Srt.zln (Srt.rank (ps.map (·.2))) pl.isList (by rw[xbd];exact small10000 h64) (zri (tup s.heap fun _ _ z=>z)) (fun h2 g keep=>zvw (by show X.A.units+1+1 < cLine;lia) (by rw[xbd] at h2;exact h2) (tup g keep)) (fun p p1 p2=>?_);rw[xbd] at p1 p2;obtain⟨qs,q1,q2,q3⟩:=zqh p1 p2;obtain⟨e,he⟩:=sortedAll_at s.heap (ps.map fun p=>Value.ref p.1) (Srt.outOf (ps.map fun p=>Value.ref p.1) p);rw[q3] at he ⊢;refine⟨.ref (s.heap.objs.size+1),_,I.laid (a:=s.heap.objs.size+1) (o:=.lst (qs.map fun p=>V.ref p.1)) (t':=s.toks) (fun _ _ z=>sortedAll_old z) (xkw _) ⟨?_,_,e,zgt qs,he⟩,rfl,q _ _ (I.hok.fresh (xkw _)) q1 q2⟩;rw[xbd,q1.length_eq];exact small10000 (by lia)
theorem zkm (hc:X.calm=true)(hu:X.A.units + 64 < cLine):CallR X (.builtin "sorted") rSortedDAL:=by
 intro aA s σ H xs us Q I r h;obtain⟨a,kvs,ks,rfl,hd,ek,few,q⟩:=h;obtain⟨u,rfl,ru⟩:=vals1 r;cases ru;obtain⟨z,ns,ys,rel,ob,es,ep,e1,e2,e3,e4,e5⟩:=(show ObjOk X.prog X.w H s.heap a (.dT kvs) from hd.ok I.hok)
 obtain⟨ps,a1,a2,a3⟩:=zlf (P:=X.prog) (w:=X.w) rel ek;have hpl:ps.length=ks.length:=by rw[← a1,xbd]
 have hes:es.toList.map (·.key)=ps.map fun p=>Value.ref p.1:=by rw[e4,xdr];exact a3
 have hsz:es.size=ps.length:=by
  have:=congrArg List.length hes;rw[xbd,xbd,xcd] at this;exact this
 have tup:∀g:Heap,(∀b o,s.heap.get? b=some o->g.get? b=some o)->TupsG g ps:=fun g keep p hp=>by
  obtain⟨us,rv,⟨o,b2,b3,n,b4⟩,_⟩:=I.tuple (SqT.of (a2 p hp));exact⟨us,o,n,zfj rv,keep _ _ b2,b3,b4⟩
 refine Srt.zor (Dct.zbat ns es ep) (I.ok.hd hc) ⟨ob,e1,e2,e3⟩ (small10000 (by lia)) fun vs hl hv=>?_
 have evs:vs=ps.map fun p=>Value.ref p.1:=by
  rw[← hes];apply xit;intro i;by_cases hi:i < es.size
  ·have h1:vs[i]?=some vs[i]:=xbe (by lia);obtain⟨en,h2,h3⟩:=hv i _ h1;rw[h1,h3,xck,xcl,h2]
   rfl
  ·rw[xjh (by lia),xjh (by rw[xbd,xcd];lia)]
 subst evs;refine⟨Srt.rank (ps.map (·.2)),zri (tup s.heap fun _ _ z=>z),fun h2 g tk keep=>zvw (by show X.A.units+1+1 < cLine;lia) (by lia) (tup g keep),fun p t g tk c p1 p2 keep ne eg=>?_⟩;rw[xbd] at p1 p2;obtain⟨qs,q1,q2,q3⟩:=zqh p1 p2;rw[q3] at eg;refine⟨.ref t,_,I.laidN (o:=.lst (qs.map fun p=>V.ref p.1)) keep ne ⟨?_,_,c,zgt qs,eg⟩,rfl,q t qs (I.away ne) ((q1.map _).trans (by rw[a1])) q2 fun p hp=>a2 p (q1.mem_iff.mp hp)⟩;rw[xbd,q1.length_eq];exact small10000 (by lia)
end
end L2
namespace L2
open PySem PySem.Spec PyProof.Rows
theorem zhq {κ β:Type}[DecidableEq κ]{k:κ}:∀{xs:List (κ×β)} {j:Nat} {p:β},(xs.map (·.1)).Nodup->xs[j]?=some (k,p)->xs.eraseIdx j=xs.filter fun x=>decide (x.1≠k)
 | [],_,_,_,e=>by simp at e
 | x::r,0,p,nd,e=>by
  simp at e;subst e;rw[xbq,xdn] at nd;rw[List.eraseIdx_cons_zero,xdc (by simp)]
  symm
  rw[xjs];intro y hy;refine xcc fun z=>nd.1 ?_
  rw[← z];exact xcb.mpr ⟨y,hy,rfl⟩
 | x::r,j+1,p,nd,e=>by
  rw[xbq,xdn] at nd;have e':r[j]?=some (k,p):=by simpa using e
  have hx:x.1≠k:=fun z=>nd.1 (by rw[z];exact xcb.mpr ⟨_,xbs e',rfl⟩)
  rw[xiq,xdd (by simpa using hx),zhq nd.2 e']
theorem zoc {α β:Type}(f:α->β):∀(l:List α) (j:Nat),(l.map f).eraseIdx j=(l.eraseIdx j).map f
 | [],_=>rfl
 | _::_,0=>rfl
 | x::l,j+1=>by rw[xbq,xiq,xiq,xbq,zoc f l j]
section
variable {prog:Program}{w:World}{κ:Type}[DecidableEq κ]{knd:HeapKind prog w κ}{A:Around}{E:Value->Shared->Prop}{s:Shared}{d a:Addr}{k:κ}{xs:List (κ×Addr×Value)}{p:Addr×Value}
theorem zsm {W:Option DictEntry->Shared->Prop}(hu:knd.room A)(hkey:knd.is s.heap k a)(hm:s.heap.DictOfH knd d xs)(hp:atKey xs k=some p)(hsz:xs.length<=sizeLine)
  (fin:∀e h',e.val=p.2->h'.DictOfH knd d (xs.filter fun x=>decide (x.1≠k))->Heap.SameBut d s.heap h'->W (some e) {s with heap:=h',toks:=s.toks+knd.draws k}) :
  wpAny (model prog w) A (Builtin.Dict.takeOut d (.ref a)) W E s:=by
 obtain⟨o,es,ep,ho,hc,hd,he,his,hn⟩:=hm;unfold Builtin.Dict.takeOut;refine xen ?_;refine xba (knd.pyHash hu hkey ?_);refine xba (wpAny_dictFind_heap (s:={s with toks:=s.toks+knd.draws k}) hu hkey ho hd he his hn (fun z=>?_) fun j q hj=>?_)
 ·rw[atKey_none_of_get z] at hp;cases hp
 ·have hq:q=p:=by
   have z:=atKey_of_get hn hj;rw[hp] at z;exact(xcp z).symm
  subst hq;refine xba (xhg (s:={s with toks:=s.toks+knd.draws k}) ho hd ?_);rw[entry_at he j,hj];have big:es.size<=sizeLine:=by have:=size_of_entries he;lia
  refine xba (wpAny_updateDictKeys (hz:=big) (s:={s with toks:=s.toks+knd.draws k}) ho hd (xbl (fin _ _ rfl ⟨_,_,ep+1,xhi _ ho (Obj.isFreed_of_dict (Obj.data_mapDictKeys hd _)),hc.mapDictKeys _,Obj.data_mapDictKeys hd _,?_,fun x hx=>?_,?_⟩ (xgj ..))))
  ·rw[← zhq hn hj];obtain⟨l⟩:=es;have he':l=xs.map (entryOfKey knd):=he;subst he';simp[zoc]
  ·exact knd.keeps (his x (xcw.mp hx).1) ho hd (xgj ..)
  ·exact List.Sublist.nodup (List.Sublist.map (fun x:κ×Addr×Value=>x.1) xhx) hn
theorem zwp {W:Value->Shared->Prop}(hu:knd.room A.in1)(hkey:knd.is s.heap k a)(hm:s.heap.DictOfH knd d xs)(hp:atKey xs k=some p)(hsz:xs.length<=sizeLine)
  (fin:∀h',h'.DictOfH knd d (xs.filter fun x=>decide (x.1≠k))->Heap.SameBut d s.heap h'->W p.2 {s with heap:=h',toks:=s.toks+knd.draws k}) :
  wpAny (model prog w) A (call (.builtin "dict.pop") [.ref d, .ref a]) W E s:=by
 have M:MeetsIn prog w (Builtin.«dict.pop» ⟨[.ref d,.ref a],[]⟩) (fun B R g=>B=A/\g=s/\∀h',h'.DictOfH knd d (xs.filter fun x=>decide (x.1≠k))->Heap.SameBut d s.heap h'->R (.ok (.ret p.2)) {s with heap:=h',toks:=s.toks+knd.draws k}) :=
  .of_wp fun B R g hq0=>by
   obtain⟨hB,hg,q⟩:=hq0;subst hB hg;unfold Builtin.«dict.pop» Builtin.Dict.keyAndDefault;refine xba (xba (wpAny_notOrdered_dict hm.typeIs (xbl ?_)));obtain⟨o,es,ep,ho,hc,hd,he,his,hn⟩:=id hm;have ne:es.isEmpty=false:=by
    have:=size_of_entries he;cases xs with
    | nil=>cases hp
    | cons x r =>
     rw[xbv] at this;rw[Array.isEmpty_eq_false_iff];intro z;rw[z] at this;simp at this
   simp only[keyPart,Option.isSome_none,xdg,xfb];refine xba (xhg ho hd (xba (xbl ?_)));rw[ne];simp only[xdg,xfb];refine xba (zsm hu hkey hm hp hsz fun e h' hv dd hs=>?_);simp only[Option.isNone_some,xdg,xfb];exact xba (wpAny_letGo (xbl ⟨e.val,rfl,by rw[hv];exact q h' dd hs⟩))
 exact xjq xhk hm.typeIs F.entry_dict_pop (F.args_dict_pop_2 _ _) M ⟨rfl,rfl,fin⟩
end
theorem KT.drop {H:Hp}{kvs:List (List Key×V)}{xs:List (List Key×Addr×Value)}(r:KT H kvs xs)(k:List Key):KT H (dropK kvs k) (xs.filter fun x=>decide (x.1≠k)):=by
 unfold dropK
 induction r with
 | nil=>exact .nil
 | @cons p q ps qs h t ih =>
  by_cases e:p.1=k
  ·rw[xdc (by simp[e]),xdc (by simp[← h.1,e])];exact ih
  ·rw[xdd (by simp[e]),xdd (by simp[← h.1,e])];exact .cons h ih
section
variable {X:Cx}{aA:List (Addr×Obj)}{σ:St}{H:Hp}{s:Shared}{a b:Addr}{kvs:List (List Key×V)}{k:List Key}
theorem zbig {v:V}{Q:Value->Shared->Prop}{E:Value->Shared->Prop}(hu:X.A.units+1 < cLine)(I:Inv X aA σ H s)(e:H a=some (.dT kvs))(eb:H b=some (.tup (k.map kV)))(l:valV kvs k=some v)
  (h:∀ w' s', Inv X aA σ (upd H a (.dT (dropK kvs k))) s'->RelV v w'->Q w' s'):wpAny (model X.prog X.w) X.A (call (.builtin "dict.pop") [.ref a, .ref b]) Q E s:=by
 obtain⟨z,hd,xs,rel,dd⟩:=zbkd I.hok e;obtain⟨w',hw,rw'⟩:=RelO.some_of (v:=v) (o:=(atKey xs k).map (·.2)) (by rw[← l];exact rel.val k);cases hp:atKey xs k with
 | none=>rw[hp] at hw;cases hw
 | some p =>
  rw[hp] at hw;have hw':p.2=w':=xcp hw;subst hw';refine zwp (xhb hu) (zpf I.hok eb) dd hp (by rw[← xgq rel];exact z) fun h' dd' hs=>h _ _ ?_ rw'
  obtain⟨q,es,ep,hq,h2,h3,h4,_,h5⟩:=dd';refine zld I (by rw[e];exact True.intro) hs ⟨q,hq⟩ ⟨xbb (xfy _ _) z,hd,_,(rel.drop k).keeps fun c ys ec=>?_,q,es,ep,hq,h2,h3,h4,h5⟩;rw[zv (zbjx ec e (fun z=>nomatch z))];exact ec
end
noncomputable def tDPopT (td ty:TE):TE:=fun σ H Q=>td σ H fun x H1=>∃a,x=.ref a/\IsD H1 a/\ty σ H1 fun y H2=>∃kvs k v b,H2 a=some (.dT kvs)/\y=.ref b/\H2 b=some (.tup (k.map kV))/\valV kvs k=some v/\Q v (upd H2 a (.dT (dropK kvs k)))
section
variable {X:Cx}{o e:Expr}{apos cpos:Pos}{td ty:TE}
theorem zwv (hu:X.A.units + 1 < cLine)(ho:PE X o td)(he:PE X e ty)(m:M1 X o "pop" apos e cpos):PE X (.Call (.Attribute o "pop" apos) [e] [] cpos) (tDPopT td ty):=by
 intro aA s σ H Q I h;refine wpAny_Call_method m.base m.few m.line xgm xhk F.type_dict_pop (thn (ho aA s σ H _ I h) fun u s1 hq0=>?_);obtain⟨x,H1,I1,rx,a,ex,d,q1⟩:=hq0;subst ex;obtain rfl:u=Value.ref a:=rx;obtain⟨t1,t2,_⟩:=zbdb I1 d;refine⟨t1,t2,?_⟩;rw[m.trees];refine xiy rfl (xjj (xgu (thn (he aA s1 σ H1 _ I1 q1) fun iv s2 ⟨y,H2,I2,ry,kvs,k,v,b,ea,ey,eb,l,q2⟩=>xir ?_)));subst ey;cases(show iv=Value.ref b from ry);exact zbig hu I2 ea eb l fun w' s3 I3 rw'=>⟨v,_,I3,rw',q2⟩
end
noncomputable def rCatA (K:Fg):R2:=fun x y H Q=>∃a b xs ys,x=.ref a/\y=.ref b/\SqT K H a xs/\SqT K H b ys/\xs.length+ys.length<=sizeLine /\
 (xs=[]->Q (.ref b) H)/\(xs≠[]->ys=[]->Q (.ref a) H)/\(xs≠[]->ys≠[]->∀p,H p=none->Q (.ref p) (upd H p (.tup (xs++ys))))
section
variable {X:Cx}
theorem zbbx:OpR X (binaryOp .Add) (rCatA X.K):=by
 intro aA s σ H x y v u Q I rx ry h;obtain⟨a,b,xs,ys,rfl,rfl,ha,hb,hz,q0,q1,q2⟩:=h;by_cases hx:xs=[]
 ·cases rx;cases ry;obtain⟨its,r1,p1,_⟩:=I.tuple ha;obtain⟨its2,r2,p2,_⟩:=I.tuple hb;obtain⟨⟨cls,dd,data,sl⟩,ho,hc,n,hd⟩:=id p1;obtain⟨⟨cls2,dd2,data2,sl2⟩,ho2,hc2,n2,hd2⟩:=id p2;simp only at hc hd hc2 hd2;subst hc hd hc2 hd2;have e:its=[]:=r1.nil_iff.mpr hx;exact concat_meets ⟨_,ho,rfl⟩ ⟨_,ho2,rfl⟩ noFill_tuple_add seq_tuple_add xix xim (xie _ _)
   (tuple_addW0 a b its.toArray its2.toArray n n2 dd dd2 sl sl2 (by simp[e])) ⟨ho,ho2,⟨.ref b,H,I,rfl,q0 hx⟩⟩
 ·exact zbbw aA s σ H _ _ v u Q I rx ry ⟨a,b,xs,ys,rfl,rfl,ha,hb,hx,hz,fun z=>q1 hx z,fun z=>q2 hx z⟩
end
section
variable {prog:Program}{w:World}{A:Around}{E:Value->Shared->Prop}{s:Shared}
theorem zuh {t sl:Addr}{its:Array Value}{vl vu:Value}{lo hi:Option Int}{W:Value->Shared->Prop}(ht:IsTup s.heap t its)(hs:s.heap.IsSliceOf sl vl vu .none)(pl:IsPart vl lo)(pu:IsPart vu hi)
  (h0:HT.sIx its.size 0 lo=0)(h1:HT.sIx its.size its.size hi=its.size)(fin:W (.ref t) s):wpAny (model prog w) A (getItem (.ref t) (.ref sl)) W E s:=by
 obtain⟨os,hos,hcs,hds⟩:=id hs;unfold getItem
 try with_reducible refine xen ?_
 first | refine xba (xbl ?_) | skip
 refine xba (wpAny_sequenceKey ht.typeIs (by decide) ?_);refine xba (wpAny_callSpecial?_slot (name:=Str.ofString "__getitem__") ht.typeIs xil (xfh xil ht.typeIs entry_tuple_getitem ?_ (args_tuple_getitem _ _)))
 show wpAny _ _ (Builtin.Tuple.tupleItemsOf (.ref t) >>= _) _ _ s;refine xba (tupleItemsOf_ ht ?_);have hTs:s.TypeIs (.ref sl) "slice":=⟨os, hos, hcs⟩
 refine xba (wpAny_typeOf hTs ?_);rw[if_pos (by decide)];refine xba (HT.zdt hs pl pu ?_);have yes:(((HT.sIx its.size 0 lo:Nat):Int)==0&&(1:Int)==1&&(HT.sIx its.size its.size hi - HT.sIx its.size 0 lo)==its.size)=true:=by
  rw[h0,h1];simp
 show wpAny _ _ (if(((HT.sIx its.size 0 lo:Nat):Int)==0&&(1:Int)==1&&(HT.sIx its.size its.size hi - HT.sIx its.size 0 lo)==its.size)=true then _ else _) _ _ s;rw[if_pos yes];refine xba (?_:wpAny _ _ (Builtin.Tuple.tupleIsExact (.ref t)) _ _ s);unfold Builtin.Tuple.tupleIsExact;refine xba (wpAny_typeOf ht.typeIs (xbl ?_));rw[if_pos (by decide)];exact xba (xhw (xbl ⟨_,rfl,xbl fin⟩))
end
noncomputable def rSlA (K:Fg):V->Option Int->Option Int->Hp->VK->Prop:=fun x lo hi H Q=>∃a xs,x=.ref a/\SqT K H a xs/\(cutV xs lo hi=xs->Q (.ref a) H)/\∀p,H p=none->Q (.ref p) (upd H p (.tup (cutV xs lo hi)))
theorem zbal {X:Cx}:SlR X (rSlA X.K):=by
 intro aA s σ H x v vl vu lo hi sl Q I rx hs pl pu h;obtain⟨a,xs,rfl,hx,q1,q2⟩:=h;by_cases hw:HT.sIx xs.length 0 lo=0/\HT.sIx xs.length xs.length hi=xs.length
 ·cases rx;obtain⟨its,r,ht,hz⟩:=I.tuple hx;have hlen:its.toArray.size=xs.length:=by rw[xbw];exact r.length.symm
  refine⟨"tuple", _, xil.lookup, ht.typeIs, ?_⟩
  refine zuh ht hs pl pu (by rw[hlen];exact hw.1) (by rw[hlen];exact hw.2) ⟨.ref a,H,I,rfl,q1 ?_⟩;unfold cutV;rw[hw.1,hw.2];simp
 ·exact zbfl aA s σ H _ v vl vu lo hi sl Q I rx hs pl pu ⟨a,xs,rfl,hx,hw,q2⟩
theorem ziv (ns:List Int):∀k,k<=ns.length->preSum (fun i=>ns.getD i 0) k=(ns.take k).sum
 | 0,_=>rfl
 | k+1,h=>by
  show preSum (fun i=>ns.getD i 0) k+ns.getD k 0=_;rw[ziv ns k (by lia),xgh (by lia),xgy,xbh,xbe (by lia)];simp
theorem zqy:∀{ns:List Int} {us:List Value} {i:Nat} {v:Value},Vals (ns.map V.int) us->us[i]?=some v->∃t,v=.int (ns.getD i 0) t
 | [],_,_,_,.nil,e=>by simp at e
 | n::ns,_,0,_,.cons r _,e=>by
  simp at e;subst e
  obtain⟨t,rfl⟩:=r;exact⟨t,rfl⟩
 | n::ns,_,i+1,v,.cons _ t,e=>by
  have:=zqy (i:=i) t (by simpa using e)
  simpa using this
noncomputable def rSum (K:Fg):List V->Hp->VK->Prop:=fun xs H Q=>∃(a:Addr) (ns:List Int),xs=[.ref a]/\(SqL K H a (ns.map V.int)\/SqT K H a (ns.map V.int))/\Q (.int ns.sum) H
theorem zuk {X:Cx}(hc:X.calm=true):CallR X (.builtin "sum") (rSum X.K):=by
 intro aA s σ H xs us Q I r h;obtain⟨a,ns,rfl,hs,q⟩:=h;obtain⟨u,rfl,ru⟩:=vals1 r;cases ru;have key:∀{its:List Value} (h':Heap) (tk:Nat) (t':Tok) (nn:Nat),nn=ns.length->(∀b o,b≠s.heap.objs.size->s.heap.get? b=some o->h'.get? b=some o) ->
   EP X aA σ Q (.int (preSum (fun i=>ns.getD i 0) nn) t') {s with heap:=h',toks:=tk}:=fun h' tk t' nn hn hk=>by
  subst hn;rw[ziv ns _ (xbg _),xda];exact⟨.int ns.sum,H,I.kept (t':=tk) fun b o e=>hk b o (xca (xbt e)) e,⟨_,rfl⟩,q⟩
 refine call_sum_walkG ?_;rcases hs with hs | hs
 ·obtain⟨its,rv,pl,hz⟩:=I.list hs;have hlt:a < s.heap.objs.size:=by obtain⟨o,n,e,_⟩:=pl;exact xbt e
  have hl:=rv.length;rw[xbd] at hl;refine xke pl.isList ?_;refine⟨s.heap.objs.size,_,[s.heap.objs.size],_,_,_,fun i=>ns.getD i 0,rfl,Walks.list (A:=X.A.in1) (I.ok.hd hc) _ a (xca hlt) its.toArray,⟨⟨_,xce _ rfl,rfl,rfl⟩,pl.isList.push _⟩,?_,fun i v e=>zqy rv (by simpa using e),fun h' tk t' hk=>?_⟩
  ·intro b hb;show b < (s.heap.push _).objs.size;rw[show ∀o:Obj,(s.heap.push o).objs.size=s.heap.objs.size+1 from fun o=>by simp[Heap.push]];rcases xbr.mp hb with rfl | hb
   ·exact xjd _
   ·rcases xbr.mp hb with rfl | hb
    ·exact xiu hlt
    ·cases hb
  ·exact key (its:=its) h' tk t' _ (by simp[hl]) fun b o hb e=>hk b o (by simpa using hb) (xbo _ e)
 ·obtain⟨its,rv,pl,hz⟩:=I.tuple hs;have hlt:a < s.heap.objs.size:=pl.lt;have hl:=rv.length;rw[xbd] at hl;have pt:s.heap.IsTuple a its.toArray:=pl;refine xij pt ?_;refine⟨s.heap.objs.size,_,[s.heap.objs.size],_,_,_,fun i=>ns.getD i 0,rfl,Walks.tuple (A:=X.A.in1) (I.ok.hd hc) _ a (xca hlt) its.toArray,⟨⟨_,xce _ rfl,rfl,rfl⟩,pt.push _⟩,?_,fun i v e=>zqy rv (by simpa using e),fun h' tk t' hk=>?_⟩
  ·intro b hb;show b < (s.heap.push _).objs.size;rw[show ∀o:Obj,(s.heap.push o).objs.size=s.heap.objs.size+1 from fun o=>by simp[Heap.push]];rcases xbr.mp hb with rfl | hb
   ·exact xjd _
   ·rcases xbr.mp hb with rfl | hb
    ·exact xiu hlt
    ·cases hb
  ·exact key (its:=its) h' tk t' _ (by simp[hl]) fun b o hb e=>hk b o (by simpa using hb) (xbo _ e)
theorem zlx {prog:Program}{w:World}{A:Around}{E:Value->Shared->Prop}{s:Shared}{it t:Addr}{i:Nat}{items:Array Value}{Q:Value->Shared->Prop}(hh:A.handled=none)(hit:s.heap.IsTupleIter it t i)(ht:s.heap.IsTuple t items)
  (hQ:∀x,items[i]?=some x->∀h',h'.IsTupleIter it t (i+1)->Heap.SameBut it s.heap h'->Q x {s with heap:=h'})
  (hE:items[i]?=none->∀ h' e, Heap.ExtBut it s.heap h'->(∃ o, h'.get? e=some o/\o.cls=.type "StopIteration")->E (.ref e) { s with heap:=h' }):wpAny (model prog w) A (Builtin.SmallTypes.nextOf (.ref it)) Q E s:=by
 rcases hit with⟨o,ho,hc,hd⟩
 rcases ht with⟨u,hu,_,n,hs⟩
 refine xba (wpAny_callSpecial?_slot (name:=Str.ofString "__next__") ⟨o, ho, hc⟩ F.slot_tuple_iterator_next (xfh F.slot_tuple_iterator_next ⟨o, ho, hc⟩ F.entry_tuple_iterator_next ?_ (F.args_tuple_iterator_next_1 _)))
 have f0:(#[Value.ref t,.int i 0]:Array Value)[0]?=some (.ref t):=rfl;have f1:(#[Value.ref t,.int i 0]:Array Value)[1]?=some (.int i 0):=rfl
 wp_walk using xjw ho hd f0,xjw ho hd f1,wpAny_seqItems hu hs
 rw[xgf];cases hx:items[i]? with
 | some x =>
  exact xba (xju ho hd (by simp) (xbl ⟨x,rfl,xbl (hQ x hx _ ⟨_,xhi _ ho (Obj.isFreed_of_fields (xif hd _)),(Obj.cls_mapFields ..).trans hc,by rw[xif hd];simp[rawInt]⟩ (.update ..))⟩))
 | none =>
  have hh':A.in1.handled=none:=hh
  wp_walk using xju ho hd (by simp)
  unfold raiseNew;refine xba (wpAny_handled ?_);rw[hh'];exact xba (xbl (wpAny_throw (hE hx _ _ ((xgj ..).extBut.push _ |>.push _) ⟨_,xce _ rfl,rfl⟩)))
theorem draws1 {prog:Program}{w:World}{A:Around}(hh:A.handled=none)(it t:Addr)(hne:t≠it)(items:Array Value) :
  Draws prog w A it [it,t] (items.size+1) (fun j v=>∃i,j=i+1/\items[i]?=some v) (fun j h=>∃i,j=i+1/\h.IsTupleIter it t i/\h.IsTuple t items) where
 live:=fun _ _ ⟨_,_,⟨o,ho,_⟩,_⟩=>⟨o,ho⟩
 frame:=fun _ _ _ ⟨i,e,a,b⟩ hk=>⟨i,e,a.at fun o e=>hk it (by simp) o e,b.at fun o e=>hk t (by simp) o e⟩
 item:=fun j s Q E hj hq0 hQ=>by
  obtain⟨i,e,a,b⟩:=hq0;have hi:i < items.size:=by lia
  refine zlx hh a b (fun x hx h' hit' hs'=>?_) fun z=>absurd z (by simp;lia)
  exact hQ _ h' s.toks ⟨i,e,hx⟩ ⟨i+1,by lia,hit',b.extBut hs'.extBut hne⟩ hs'
 done:=fun s Q E ⟨i,e,a,b⟩ hE=>zlx hh a b (fun x hx=>absurd hx (by rw[xiz (by lia)];simp)) fun _=>hE
theorem draws0 {prog:Program}{w:World}{A:Around}(hh:A.handled=none)(it t:Addr)(items:Array Value)(i:Nat)(hi:items.size<=i) :
  Draws prog w A it [it,t] (i+1) (fun _ _=>False) (fun j h=>j=i+1/\h.IsTupleIter it t i/\h.IsTuple t items) where
 live:=fun _ _ ⟨_,⟨o,ho,_⟩,_⟩=>⟨o,ho⟩
 frame:=fun _ _ _ ⟨e,a,b⟩ hk=>⟨e,a.at fun o e=>hk it (by simp) o e,b.at fun o e=>hk t (by simp) o e⟩
 item:=fun j s Q E hj ⟨e,_⟩ _=>absurd e (by lia)
 done:=fun s Q E ⟨_,a,b⟩ hE=>zlx hh a b (fun x hx=>absurd hx (by rw[xiz hi];simp)) fun _=>hE
section
variable {X:Cx}{aA:List (Addr×Obj)}{σ:St}{H:Hp}{s:Shared}{h':Heap}
theorem Inv.turned2 {t':Nat}{e it:Addr}(I:Inv X aA σ H s)(k:∀b o,b≠e->b≠it->s.heap.get? b=some o->h'.get? b=some o)(hn:H it=none)(hL:it≠X.env.locals)
  (h1:it∈X.ex\/X.s₀.heap.objs.size<=it)(h2:∀x c,X.env.cells.lookup x=some c->c≠it)(h3:∀p∈X.pn++aA,p.1≠it)(gn:H e=none)(gL:e≠X.env.locals)
  (g1:e∈X.ex\/X.s₀.heap.objs.size<=e)(g2:∀x c,X.env.cells.lookup x=some c->c≠e)(g3:∀p∈X.pn++aA,p.1≠e):Inv X aA σ H {s with heap:=h',toks:=t'}:=by
 have nit:∀b u,H b=some u->b≠it:=fun b u e z=>by rw[z,hn] at e;cases e
 have nie:∀b u,H b=some u->b≠e:=fun b u q z=>by rw[z,gn] at q;cases q
 refine I.step (g':=s.gens) (d':=s.drawn) (ch:=[e,it]) (fun b hb=>?_) (fun b o _ _ hc e _=>k b o (fun z=>hc (by simp[z])) (fun z=>hc (by simp[z])) e) (fun b o _ _ hc e _=>⟨o.slots,k b o (fun z=>hc (by simp[z])) (fun z=>hc (by simp[z])) e⟩) (fun _ _ _ _ n=>n)
  (fun b o hc e=>⟨o,k b o (fun z=>hc (by simp[z])) (fun z=>hc (by simp[z])) e⟩) (fun _ _ e=>e) (fun _ _ _ e=>e) (fun b ps e=>⟨#[],by rw[e];simp⟩) (fun m hm=>?_) (fun b u e=>?_) I.bare
 ·rcases xbr.mp hb with z | z
  ·subst z;exact⟨g1,gL,g2,g3⟩
  ·have z':b=it:=by simpa using z
   subst z';exact⟨h1,hL,h2,h3⟩
 ·obtain⟨o,es,ep,ho,r⟩:=hm;exact⟨o,es,ep,k _ o (xel gL) (xel hL) ho,r⟩
 ·refine(I.hok b u e).stay (fun c v hc q=>k c v ?_ ?_ q) (fun _ q=>q) fun _ _ q=>q
  ·rcases hc with z | z
   ·rw[z];exact nie b u e
   ·exact nie c _ z
  ·rcases hc with z | z
   ·rw[z];exact nit b u e
   ·exact nit c _ z
end
noncomputable def Ite (K:Fg) (a:Addr):It :=
 ⟨fun i H=>∃xs x,SqT K H a xs/\xs[i]?=some x,fun i H y H'=>∃p,H p=none/\y=.ref p/\∀xs x,SqT K H a xs->xs[i]?=some x->H'=upd H p (.tup [.int ((i+1:Nat):Int),x]),fun i H=>∃xs,SqT K H a xs/\xs.length<=i⟩
theorem zpq {P:Program}{w:World}{K:Fg}{elts:List Expr}{k:Nat}{tpos:Pos}(e it a:Addr)(hei:e≠it) :
  Turn P w K (.Tuple elts k tpos) (Ite K a) [e,it] e (fun i h=>(∃old,IsEnum h e it ((i+1:Nat):Int) old)/\h.IsTupleIter it a i) where
 mem:=by simp
 obj:=fun i h st b hb=>by
  obtain⟨⟨old,he⟩,o,e',c,d⟩:=st;rcases xbr.mp hb with rfl | hb
  ·exact⟨_,he,fun v z=>by
    have z':Data.fields _=Data.cell v:=z
    cases z'⟩
  ·have:b=it:=by simpa using hb
   subst this;exact⟨o,e',fun v z=>by rw[d] at z;cases z⟩
 keep:=fun i h h' st k=>⟨let ⟨old,he⟩:=st.1;⟨old,k e (by simp) _ he⟩,st.2.at fun o z=>k it (by simp) o z⟩
 item:=by
  intro X hP hw hK hc i aA s σ H E I hf st hg;subst hP hw hK;obtain⟨xs,x,hq,hx⟩:=hg;obtain⟨⟨old,he⟩,hit⟩:=st;obtain⟨its,rv,p,hz⟩:=I.tuple hq;have ht:s.heap.IsTuple a its.toArray:=p;obtain⟨u,hu,ru⟩:=rv.get hx;have hae:a≠e:=fun z=>by
   obtain⟨o,ho,hcl,_⟩:=ht;rw[z,he] at ho;cases ho;simp at hcl
  have hai:a≠it:=fun z=>by
   obtain⟨o,ho,hcl,_⟩:=ht;obtain⟨o',ho',hcl',_⟩:=hit;rw[z,ho'] at ho;cases ho;rw[hcl'] at hcl;simp at hcl
  have hi:i < its.length:=(xbc.mp hu).1;have D:=draws1 (prog:=X.prog) (w:=X.w) (A:=X.A.in1) (I.ok.hd hc) it a hai its.toArray;refine wpAny_pyNext_enum_itemD D (i:=i+1) he ⟨i,rfl,hit,ht⟩ (by simp;lia) hei (by simp;exact⟨hei,fun z=>hae z.symm⟩) fun x' h' tk hP ho hs' hT hsz hk=>?_
  obtain⟨i',e1,e2⟩:=hP;cases(show i'=i by lia);have eu:x'=u:=by
   rw[List.getElem?_toArray,hu] at e2;exact(xcp e2).symm
  subst eu;refine⟨_,rfl,wpAny_letOwnedTupleGo_enum ho fun h2 he2 hs2=>?_⟩;obtain⟨f0,f1,f2,f3,f4,f5⟩:=hf e (by simp);obtain⟨g0,g1,g2,g3,g4,g5⟩:=hf it (by simp);have hel:e < s.heap.objs.size:=xbt he;have hil:it < s.heap.objs.size:=by obtain⟨o',ho',_⟩:=hit;exact xbt ho'
  have I1:Inv X aA σ (upd H s.heap.objs.size (.tup [.int ((i + 1:Nat):Int), x])) { s with heap:=s.heap.push { cls:=.type "tuple", data:=.seq #[.int ((i + 1:Nat):Int) tk, x'] }, toks:=s.toks } :=
   I.laid (fun _ _ q=>xbo _ q) (xbg _) ⟨by simp;decide,[.int ((i+1:Nat):Int) tk,x'],.cons ⟨tk,rfl⟩ (.cons ru .nil),⟨_,xce _ rfl,rfl,_,rfl⟩⟩
  have T2:h2.get? s.heap.objs.size=some { cls:=.type "tuple", data:=.seq #[.int ((i + 1:Nat):Int) tk, x'] }:=(hs2.2 _ (xkh hel)).trans hT
  have I2:Inv X aA σ (upd H s.heap.objs.size (.tup [.int ((i+1:Nat):Int),x])) {s with heap:=h2,toks:=tk+1}:=by
   refine Inv.turned2 (s:={ s with heap:=s.heap.push { cls:=.type "tuple", data:=.seq #[.int ((i + 1:Nat):Int) tk, x'] }, toks:=s.toks }) (h':=h2) (t':=tk + 1) (e:=e) (it:=it) I1 (fun b o hbe hbi q=>?_) (by rw[zv (xca hil)]; exact g0) g1 g3 g4 g5 (by rw[zv (xca hel)]; exact f0) f1 f3 f4 f5
   have q':(s.heap.push { cls:=.type "tuple", data:=.seq #[.int ((i + 1:Nat):Int) tk, x'] }).get? b=some o:=q
   rcases Heap.get?_push_cases q' with⟨z,z2⟩ | z
   ·rw[z,z2];exact T2
   ·exact(hs2.2 _ hbe).trans (hk b o hbe hbi z)
  refine⟨.ref s.heap.objs.size,_,I2,rfl,⟨s.heap.objs.size,I.fresh,rfl,fun ys y hy e'=>?_⟩,⟨⟨x',?_⟩,?_⟩,fun b hb=>?_⟩
  ·rw[I.tuple_inj hy hq,hx] at e';cases e'
   rfl
  ·have:(((i+1+1:Nat)):Int)=(((i+1:Nat)):Int)+1:=by push_cast;rfl
   rw[this];exact he2
  ·obtain⟨i',e3,e4,_⟩:=hs';cases(show i'=i+1 by lia);exact e4.at fun o q=>(hs2.2 it (xel hei)).trans q
  ·rcases xbr.mp hb with rfl | hb
   ·rw[zv (xca hel)];exact f0
   ·have:b=it:=by simpa using hb
    subst this;rw[zv (xca hil)];exact g0
 done:=by
  intro X hP hw hK hc i aA s σ H E I hf st hg;subst hP hw hK;obtain⟨xs,hq,hx⟩:=hg;obtain⟨⟨old,he⟩,hit⟩:=st;obtain⟨its,rv,p,hz⟩:=I.tuple hq;have ht:s.heap.IsTuple a its.toArray:=p;have hl:=rv.length;obtain⟨g0,g1,g2,g3,g4,g5⟩:=hf it (by simp);have D:=draws0 (prog:=X.prog) (w:=X.w) (A:=X.A.in1) (I.ok.hd hc) it a its.toArray i (by simp;lia);exact wpAny_pyNext_enum_endD D he ⟨rfl,hit,ht⟩ fun h' he'=>⟨rfl,I.turned (t':=s.toks) (fun b o hb e=>he' b o hb e) g0 g1 g3 g4 g5⟩
 self:=fun A i s Q E st h=>let ⟨old,he⟩:=st.1;wpAny_pyIter_enum he h
theorem ztw (a:Addr)(items:Array Value)(ob:Obj)(t:Tok) :
  Meets (Builtin.«enumerate.__new__» ⟨[.type "enumerate", .ref a],[(Str.ofString "start", .int 1 t)]⟩) (fun _ R s=>s.heap.get? a=some ob/\s.heap.IsTuple a items /\
   R (.ok (.ret (.ref (s.heap.objs.size+1))))
    { s with heap:=(s.heap.push { cls:=.type "tuple_iterator", data:=.fields #[.ref a, .int 0 0] }).push { cls:=.type "enumerate", data:=.fields #[.none, .bool false, .ref s.heap.objs.size, rawInt 1, .none, .none] } }):=by
 refine Meets.of_wp ?_;rintro prog w A R ⟨hp,g,d,tk,os⟩ ⟨h1,h2,h3⟩;have known:=sub_enumerate;have size:(hp.push { cls:=.type "tuple_iterator", data:=.fields #[.ref a, .int 0 0] }).objs.size=hp.objs.size + 1:=Heap.size_push ..
 rw[← size] at h3
 wp_walk using xih h1
 refine wpAny_stack_any fun _=>xbl ?_
 split
 ·rename_i c _ _ _ _ _;generalize (c==Value.type "enumerate")=b
  cases b<;>(wp_walk using xih h1,xij h2;exact⟨_,rfl,h3⟩)
 ·wp_walk using xih h1,xij h2
  exact⟨_,rfl,h3⟩
theorem zbdd {T nw:String}{self a:Value}{rest:List Value}{k:Str×Value}{kw:List (Str×Value)}(h1:typeLookup (.type T) "__init__"=pure (some (.builtin "object.__init__")))(h2:Bind.madeBy (.type T)=pure (some nw))
  (h3:(some nw != some "object.__new__")=true):Meets (Builtin.«object.__init__» ⟨self::a::rest, k::kw⟩) (fun _ R s=>s.TypeIs self T/\R (.ok (.ret .none)) s) :=
 .of_wp fun _ _ _ _ _ hq0=>by
  obtain⟨h4,h5⟩:=hq0
  repeat any_goals first | assumption | wp_step
  exact⟨_,rfl,h5⟩
theorem zxi (a:Value)(t:Tok):checkBuiltinCall "enumerate.__new__" ⟨[.type "enumerate", a],[(Str.ofString "start", .int 1 t)]⟩=pure ():=by kernel_rfl
theorem zxd (o a:Value)(t:Tok):argsOk "object.__init__" ⟨[o, a],[(Str.ofString "start", .int 1 t)]⟩:=by kernel_rfl
theorem zrm {prog:Program}{w:World}{A:Around}{E:Value->Shared->Prop}{s:Shared}{a:Addr}{items:Array Value}{t:Tok}{Q:Value->Shared->Prop}(hL:s.heap.IsTuple a items)
  (h:∀h',IsEnum h' (s.heap.objs.size+1) s.heap.objs.size 1 .none->h'.IsTupleIter s.heap.objs.size a 0->(∀b o,s.heap.get? b=some o->h'.get? b=some o)->Q (.ref (s.heap.objs.size+1)) {s with heap:=h'}) :
  wpAny (model prog w) A (call (.type "enumerate") [.ref a] [(Str.ofString "start", .int 1 t)]) Q E s:=by
 rcases id hL with⟨ob,hob,_⟩
 have ft:=F.called_enumerate;rcases ft.mro with⟨c,tl,m1⟩
 have m2:=ft.made;have m3:=ft.sub;have m4:=ft.notType;have m5:=ft.canCreate;have m6:=ft.init.lookup;have size:(s.heap.push { cls:=.type "tuple_iterator", data:=.fields #[.ref a, .int 0 0] }).objs.size=s.heap.objs.size + 1:=Heap.size_push ..
 have he:IsEnum ((s.heap.push { cls:=.type "tuple_iterator", data:=.fields #[.ref a, .int 0 0] }).push { cls:=.type "enumerate", data:=.fields #[.none, .bool false, .ref s.heap.objs.size, rawInt 1, .none, .none] }) (s.heap.objs.size + 1) s.heap.objs.size 1 .none:=by
  rw[← size];exact xce _ rfl
 have done:=h _ he ⟨_,xbo _ (xce _ rfl),rfl,rfl⟩ fun b o x=>xbo _ (xbo _ x)
 refine wpAny_call (codeAny_of_tree (xbl ⟨Code.quiet_builtin _ (by decide +kernel),codeAny_builtin F.entry_type_call ?_⟩));rw[Around.under_plain (weight_type_call_type _ _ _) (units_type_call_type _ _ _)]
 repeat any_goals first | assumption | wp_step
 refine xjp (codeAny_call_builtin ft.plain F.entry_enumerate_new (wpAny_of_eq (zxi _ t) (ztw a items ob t prog w A.in1 (wants (fun x s1=>s1.TypeIs x "enumerate"/\Q x s1) E) s ⟨hob, hL,⟨_, he, rfl⟩, done⟩))) ?_
 clear done he size h hL hob;rintro(e | _ | _ | _ | x) s1 hr
 case ok.ret =>
  obtain⟨T,q⟩:=hr;have m7:=ft.init.bind x
  repeat any_goals first | assumption | wp_step
  refine xjp (codeAny_call_builtin ft.init.plain F.entry_object_init (ft.init.check _ _ _ _ _ _ _ _ T (zxd _ _ t) (zbdd m6 m2 (by decide) prog w A.in1 (wants (fun y s2=>y=.none/\Q x s2) E) _ ⟨T,rfl,q⟩))) ?_;rintro(e | _ | _ | _ | y) s2 hr
  case ok.ret =>
   obtain⟨rfl,q⟩:=hr
   repeat any_goals first | assumption | wp_step
  all_goals first | exact hr | exact hr.elim
 all_goals first | exact hr | exact hr.elim
theorem cw_kw {M:Model}{A:Around}{E:Value->Shared->Prop}{s:Shared}{pos:Pos}{T:String}{first:List Value}{args:List (Bool×Sem Value)}{kws:List (Option Str×Sem Value)}{Q:Value->Shared->Prop}(h1:args.any (·.1)=false)(h2:kws.any (·.1.isNone)=false)
  (h:wpAny M A (evalArgs (.type T) true args kws) (fun a s1=>wpAny M A (call (.type T) (first++a.pos) a.kw) Q E s1) E s):wpAny M A (callWith pos (.type T) first args kws) Q E s:=by
 unfold callWith;refine xba (xen (xdz h ?_ fun _ _=>id));intro a s1 k;rw[h1,h2];exact xba (xka (xba (xbl (xba (xdz k (fun _ _ q=>xba (xen (wpAny_point (xbl q)))) fun _ _=>id)))))
section
variable {X:Cx}
noncomputable def iEnum1 (K:Fg) (tl:TE):TI:=fun σ H R=>tl σ H fun x H1=>∃a,x=.ref a/\(∃xs,SqT K H1 a xs)/\R (Ite K a) H1
theorem zwr {elts:List Expr}{k j:Nat}{tpos p pos kpos cpos:Pos}{l:Expr}{tl:TE}(hg:Gl X "enumerate")(hm:X.mg "enumerate"=none)(hl:PE X l tl)
  (he:starEach [l] X.env=[(false,eval l X.env)]:=by rfl) :
  PI X (.Tuple elts k tpos) (.Call (.Name "enumerate" p) [l] [⟨some "start", .Constant (.int 1) j cpos, kpos⟩] pos) (iEnum1 X.K tl):=by
 intro aA s σ H R I h;refine xik (zpe I hg hm PyProof.Rows.boot_enumerate ?_);refine cw_kw (by rw[he];rfl) rfl ?_;rw[he];refine evalArgs_kwB rfl ?_;refine xgu (thn (hl aA s σ H _ I h) fun v s1 hq0=>?_);obtain⟨x,H1,I1,r1,q1⟩:=hq0;refine xir ?_;refine kws_cons ?_;refine wpAny_Constant_int (kws_nil ?_);obtain⟨a,rfl,⟨xs,hq⟩,q⟩:=q1;cases r1;have I2:=I1.tok (s1.toks+1);obtain⟨its,rv,pp,hz⟩:=I2.tuple hq;refine zrm (show _ from pp) fun h' he' hit hk=>?_
 refine wpAny_pyIter_enum he' ?_;have I3:=I2.kept (h':=h') (t':=s1.toks+1) hk;refine⟨s1.heap.objs.size+1,[s1.heap.objs.size+1,s1.heap.objs.size],_,_,H1,rfl,I3,zpq _ s1.heap.objs.size a (Nat.succ_ne_self _),⟨⟨_,he'⟩,hit⟩,fun b hb=>?_,q⟩;have hb':s1.heap.objs.size<=b:=by
  have hb2:b=s1.heap.objs.size+1\/b=s1.heap.objs.size:=by simpa using hb
  cases hb2 with
  | inl z=>exact z ▸ xkw _
  | inr z=>exact z ▸ xbg _
 exact I1.fpOk hb' (I1.hok.fresh hb')
end
noncomputable def bestI (gt:Bool) (n:Int) (ns:List Int):Int:=ns.foldl (fun i j=>if(if gt then decide (j > i) else decide (j < i))=true then j else i) n
theorem zmp:∀(ns:List Int) (n:Int),bestI true n ns∈n::ns/\∀a∈n::ns,a<=bestI true n ns
 | [],n=>⟨by simp[bestI],by simp[bestI]⟩
 | m::ns,n=>by
  have e:bestI true n (m::ns)=bestI true (if m > n then m else n) ns:=by simp[bestI]
  obtain⟨h1,h2⟩:=zmp ns (if m > n then m else n);rw[e];refine⟨?_,fun a ha=>?_⟩
  ·rcases xbr.mp h1 with z | z
   ·rw[z];split<;>simp
   ·simp[z]
  ·have h3:=h2 _ xcn;rcases xbr.mp ha with rfl | ha
   ·refine xkl ?_ h3;split<;>lia
   ·rcases xbr.mp ha with rfl | ha
    ·refine xkl ?_ h3;split<;>lia
    ·exact h2 a (xbm _ ha)
theorem zro {n:Int}{ns:List Int}{k:Nat}(hk:k=ns.length):(n::ns).getD (argBest (fun i j=>decide ((n::ns).getD i 0 >(n::ns).getD j 0)) k) 0=bestI true n ns:=by
 subst hk;obtain⟨h1,h2⟩:=argBest_gt (fun i=>(n::ns).getD i 0) ns.length;obtain⟨g1,g2⟩:=zmp ns n;have hl:argBest (fun i j=>decide ((n::ns).getD i 0 >(n::ns).getD j 0)) ns.length < (n::ns).length:=by rw[xbv];lia
 obtain⟨j,hj,ej⟩:=xdx g1;have a1:=h2 j (by simp at hj;lia);have a2:=g2 ((n::ns).getD (argBest (fun i j=>decide ((n::ns).getD i 0 >(n::ns).getD j 0)) ns.length) 0) (by rw[xbh,xbe hl];exact xem hl);have e:(n::ns).getD j 0=bestI true n ns:=by rw[xbh,xbe hj,ej];rfl
 rw[e] at a1;lia
section
variable {X:Cx}
end
section
variable {prog:Program}{w:World}{A:Around}{E:Value->Shared->Prop}{s:Shared}{z TI TO i1 i2 t1 t2:Addr}{xs ys:Array Value}{j:Nat}
end
section
variable {prog:Program}{w:World}{A:Around}{E:Value->Shared->Prop}{s:Shared}{z TI TO i1 i2 t1 t2:Addr}{xs ys:Array Value}{j:Nat}
end
section
variable {prog:Program}{w:World}{A:Around}{E:Value->Shared->Prop}{s:Shared}
end
section
variable {X:Cx}
end
end L2
namespace Dd
open PySem L2
set_option genInjectivity true in
inductive D where
 | non | bl (b:Bool) | int (i:Int) | str (x:Str) | ty (n:String) | ref (n:Nat) | tup (ds:List D) | lst (ds:List D) | scr (ds:List D) | exn (c:Str) (l:List Int)
set_option genInjectivity true in
inductive O where
 /-- a list that may change;a dict by tuples of ints;one that is only read;gone -/
 | lst (xs:List D) | dT (kvs:List (List Int×D)) | fT (kvs:List (List Int×D)) | dead
 /-- a dict by ints -/
 | dI (kvs:List (Int×D))
 /-- the law's table of codes -/
 | tab
noncomputable abbrev Store:=List O
structure Exc where
 cls:Str
 at_:List Int
set_option genInjectivity true in
inductive Res (α:Type) where
 | ok (a:α) (st:Store) | exc (x:Exc) (st:Store) | stuck
noncomputable def Res.bind {α β:Type}:Res α->(α->Store->Res β)->Res β
 | .ok a st,f=>f a st
 | .exc x st,_=>.exc x st
 | .stuck,_=>.stuck
@[simp] theorem zy {α β:Type} (a:α) (st:Store) (f:α->Store->Res β):(Res.ok a st).bind f=f a st:=rfl
@[simp] theorem zbiy {α β:Type} (x:Exc) (st:Store) (f:α->Store->Res β):(Res.exc x st:Res α).bind f=.exc x st:=rfl
@[simp] theorem zben {α β:Type} (f:α->Store->Res β):(Res.stuck:Res α).bind f=.stuck:=rfl
theorem zc {α β:Type}{r:Res α}{f:α->Store->Res β}{b:β}{st':Store}(h:r.bind f=.ok b st'):∃a st,r=.ok a st/\f a st=.ok b st':=by
 cases r with
 | ok a st=>exact⟨a,st,rfl,h⟩
 | exc x st=>cases h
 | stuck=>cases h
noncomputable abbrev DS:=List (Option D)
noncomputable abbrev SE:=DS->Store->Res D
noncomputable abbrev ST:=DS->Store->Res Bool
noncomputable abbrev SA:=DS->Store->Res (List D)
set_option genInjectivity true in
inductive Fl where
 | nx (σ:DS) | ret (v:D) | brk (σ:DS) | ct (σ:DS)
noncomputable abbrev SS:=DS->Store->Res Fl
noncomputable abbrev DFn:=List D->Store->Res D
structure Loc where
 m:List (Option Addr)
 g:List Addr
noncomputable def Out (ρ:Loc) (a:Addr):Prop:=some a∉ρ.m/\a∉ρ.g
noncomputable def Ls (K:Fg) (ρ:Loc) (H:Hp) (a:Addr) (vs:List V):Prop:=(Rd H a (.lst vs)/\Out ρ a)\/∀H':Hp,SqL K H' a vs
noncomputable def XAt (K:Fg) (ρ:Loc) (H:Hp) (c:Str) (l:List Int) (a:Addr):Prop:=∃C o,W.nsIn K mainGlobals c=some (some (.ref C))/\(H a=some (.frz o (.ext fun _=>True))/\Out ρ a)/\o.cls=.ref C/\(∃vs,o.data=.fields vs/\vs[2]?=some .none) /\
 ((l=[]/\o.dict=none)\/∃ i dx od, l=[i]/\o.dict=some dx/\H dx=some (.frz od (.xd [("at", .int i)]))/\Out ρ dx)
theorem XAt.map {K:Fg}{ρ ρ':Loc}{H H':Hp}{c:Str}{l:List Int}{a:Addr}(h:XAt K ρ H c l a)(f:∀b ob u,H b=some (.frz ob u)->Out ρ b->H' b=some (.frz ob u)/\Out ρ' b):XAt K ρ' H' c l a:=by
 obtain⟨C,o,h1,h2,h3,h4,h5⟩:=h;refine⟨C,o,h1,f _ _ _ h2.1 h2.2,h3,h4,?_⟩;rcases h5 with h5 | ⟨i,dx,od,h6,h7,h8,h9⟩
 ·exact .inl h5
 ·exact .inr ⟨i,dx,od,h6,h7,(f _ _ _ h8 h9).1,(f _ _ _ h8 h9).2⟩
mutual
inductive At (K:Fg) (ρ:Loc) (H:Hp):D->V->Prop
 | non:At K ρ H .non .non
 | bl (b:Bool):At K ρ H (.bl b) (.bl b)
 | int (i:Int):At K ρ H (.int i) (.int i)
 | str (x:Str):At K ρ H (.str x) (.str x)
 | ty (n:String):At K ρ H (.ty n) (.ty n)
 | ref {n:Nat} {v:V}:n < ρ.m.length->(∀a,ρ.m[n]?=some (some a)->v=.ref a)->At K ρ H (.ref n) v
 | tup {a:Addr} {ds:List D} {vs:List V}:H a=some (.tup vs)->Out ρ a->AtAll K ρ H ds vs->At K ρ H (.tup ds) (.ref a)
 | lst {a:Addr} {ds:List D} {vs:List V}:H a=some (.lst vs)->Out ρ a->AtAll K ρ H ds vs->At K ρ H (.lst ds) (.ref a)
 | scr {a:Addr} {ds:List D} {vs:List V}:Ls K ρ H a vs->AtAll K ρ H ds vs->At K ρ H (.scr ds) (.ref a)
 | exn {c:Str} {l:List Int} {a:Addr}:XAt K ρ H c l a->At K ρ H (.exn c l) (.ref a)
inductive AtAll (K:Fg) (ρ:Loc) (H:Hp):List D->List V->Prop
 | nil:AtAll K ρ H [] []
 | cons {d:D} {ds:List D} {v:V} {vs:List V}:At K ρ H d v->AtAll K ρ H ds vs->AtAll K ρ H (d::ds) (v::vs)
end
structure Mv (ρ:Loc) (H:Hp) (ρ':Loc) (H':Hp):Prop where
 out:∀{a:Addr} {o:HO},H a=some o->Out ρ a->H' a=some o/\Out ρ' a
 len:ρ.m.length<=ρ'.m.length
 old:∀(n:Nat) (a:Addr),n < ρ.m.length->ρ'.m[n]?=some (some a)->ρ.m[n]?=some (some a)
theorem Ls.mv {K:Fg}{ρ ρ':Loc}{H H':Hp}{a:Addr}{vs:List V}(x:Mv ρ H ρ' H')(h:Ls K ρ H a vs):Ls K ρ' H' a vs:=by
 rcases h with⟨h | ⟨o,h⟩,n⟩ | h
 ·exact .inl ⟨.inl (x.out h n).1,(x.out h n).2⟩
 ·exact .inl ⟨.inr ⟨o,(x.out h n).1⟩,(x.out h n).2⟩
 ·exact .inr h
theorem At.mv {K:Fg}{ρ ρ':Loc}{H H':Hp}(x:Mv ρ H ρ' H'){d:D}{v:V}(h:At K ρ H d v):At K ρ' H' d v :=
 At.rec (motive_1:=fun d v _=>At K ρ' H' d v) (motive_2:=fun d v _=>AtAll K ρ' H' d v) .non .bl .int .str .ty (fun h e=>.ref (xbk h x.len) fun a q=>e a (x.old _ a h q)) (fun h n _ ih=>.tup (x.out h n).1 (x.out h n).2 ih) (fun h n _ ih=>.lst (x.out h n).1 (x.out h n).2 ih) (fun h _ ih=>.scr (h.mv x) ih) (fun h=>.exn (h.map fun _ _ _ e n=>x.out e n)) .nil (fun _ _ a b=>.cons a b) h
theorem AtAll.mv {K:Fg}{ρ ρ':Loc}{H H':Hp}(x:Mv ρ H ρ' H'){d:List D}{v:List V}(h:AtAll K ρ H d v):AtAll K ρ' H' d v :=
 AtAll.rec (motive_1:=fun _ _ _=>True) (motive_2:=fun d v _=>AtAll K ρ' H' d v) trivial (fun _=>trivial) (fun _=>trivial) (fun _=>trivial) (fun _=>trivial) (fun _ _=>trivial) (fun _ _ _ _=>trivial) (fun _ _ _ _=>trivial) (fun _ _ _=>trivial) (fun _=>trivial) .nil (fun a _ _ b=>.cons (a.mv x) b) h
structure Ext (ρ:Loc) (H:Hp) (ρ':Loc) (H':Hp):Prop where
 len:ρ.m.length<=ρ'.m.length
 old:∀(n:Nat) (a:Addr),n < ρ.m.length->ρ'.m[n]?=some (some a)->ρ.m[n]?=some (some a)
 keep:∀a o,H a=some o->some a∉ρ.m->H' a=some o/\some a∉ρ'.m
 gho:ρ'.g=ρ.g
 frz:∀a ob u,H a=some (.frz ob u)->H' a=some (.frz ob u)
theorem Ext.out {ρ ρ':Loc}{H H':Hp}(x:Ext ρ H ρ' H'){a:Addr}{o:HO}(h:H a=some o)(n:Out ρ a):H' a=some o/\Out ρ' a :=
 ⟨(x.keep a o h n.1).1,(x.keep a o h n.1).2,by rw[x.gho];exact n.2⟩
theorem Ext.mv {ρ ρ':Loc}{H H':Hp}(x:Ext ρ H ρ' H'):Mv ρ H ρ' H':=⟨fun h n=>x.out h n,x.len,x.old⟩
theorem Ls.sq {K:Fg}{ρ:Loc}{H:Hp}{a:Addr}{vs:List V}(h:Ls K ρ H a vs):SqL K H a vs:=by
 rcases h with h | h
 ·exact .inl h.1
 ·exact h H
section
variable {K:Fg}
theorem Ext.refl (ρ:Loc)(H:Hp):Ext ρ H ρ H:=⟨xbg _,fun _ _ _ e=>e,fun _ _ e n=>⟨e,n⟩,rfl,fun _ _ _ e=>e⟩
theorem Ext.trans {ρ ρ1 ρ2:Loc}{H H1 H2:Hp}(a:Ext ρ H ρ1 H1)(b:Ext ρ1 H1 ρ2 H2):Ext ρ H ρ2 H2 :=
 ⟨xbb a.len b.len,fun n c h e=>a.old n c h (b.old n c (xbk h a.len) e),fun c o e n=>by
  obtain⟨e1,n1⟩:=a.keep c o e n
  exact b.keep c o e1 n1,b.gho.trans a.gho,fun c ob u e=>b.frz c ob u (a.frz c ob u e)⟩
theorem At.ext {ρ ρ':Loc}{H H':Hp}(x:Ext ρ H ρ' H'){d:D}{v:V}(h:At K ρ H d v):At K ρ' H' d v:=h.mv x.mv
theorem AtAll.ext {ρ ρ':Loc}{H H':Hp}(x:Ext ρ H ρ' H'){d:List D}{v:List V}(h:AtAll K ρ H d v):AtAll K ρ' H' d v:=h.mv x.mv
theorem AtAll.length {ρ:Loc}{H:Hp}:∀{ds:List D} {vs:List V},AtAll K ρ H ds vs->vs.length=ds.length
 | _,_,.nil=>rfl
 | _,_,.cons _ t=>by rw[xbv,xbv,AtAll.length t]
theorem AtAll.get {ρ:Loc}{H:Hp}:∀{ds:List D} {vs:List V} {i:Nat} {d:D},AtAll K ρ H ds vs->ds[i]?=some d->∃v,vs[i]?=some v/\At K ρ H d v
 | _,_,_,_,.nil,e=>by simp at e
 | _,_,0,_,.cons a _,e=>by simp at e;subst e;exact⟨_,rfl,a⟩
 | _,_,i+1,d,.cons _ t,e=>by
  obtain⟨u,h1,h2⟩:=AtAll.get (i:=i) (d:=d) t (by simpa using e);exact⟨u,by simpa using h1,h2⟩
theorem AtAll.append {ρ:Loc}{H:Hp}:∀{ds es:List D} {vs us:List V},AtAll K ρ H ds vs->AtAll K ρ H es us->AtAll K ρ H (ds++es) (vs++us)
 | _,_,_,_,.nil,b=>b
 | _,_,_,_,.cons a t,b=>.cons a (AtAll.append t b)
theorem AtAll.take {ρ:Loc}{H:Hp}:∀{ds:List D} {vs:List V} (n:Nat),AtAll K ρ H ds vs->AtAll K ρ H (ds.take n) (vs.take n)
 | _,_,0,_=>.nil
 | _,_,_+1,.nil=>.nil
 | _,_,n+1,.cons a t=>.cons a (AtAll.take n t)
theorem AtAll.drop {ρ:Loc}{H:Hp}:∀{ds:List D} {vs:List V} (n:Nat),AtAll K ρ H ds vs->AtAll K ρ H (ds.drop n) (vs.drop n)
 | _,_,0,h=>h
 | _,_,_+1,.nil=>.nil
 | _,_,n+1,.cons a t=>AtAll.drop n t
theorem AtAll.set {ρ:Loc}{H:Hp}{d:D}{v:V}(a:At K ρ H d v):∀{ds:List D} {vs:List V} (n:Nat),AtAll K ρ H ds vs->AtAll K ρ H (ds.set n d) (vs.set n v)
 | _,_,_,.nil=>.nil
 | _,_,0,.cons _ t=>.cons a t
 | _,_,n+1,.cons b t=>.cons b (AtAll.set a n t)
noncomputable def KvAt (K:Fg) (ρ:Loc) (H:Hp):List (List Int×D)->List (List Key×V)->Prop:=Paired fun p q=>q.1=p.1.map Sum.inl/\At K ρ H p.2 q.2
theorem KvAt.ext {ρ ρ':Loc}{H H':Hp}(x:Ext ρ H ρ' H'){a:List (List Int×D)}{b:List (List Key×V)}(h:KvAt K ρ H a b):KvAt K ρ' H' a b:=Paired.mapP h fun p q z=>⟨z.1,z.2.ext x⟩
noncomputable abbrev lamQ:Str:=(("law" : Str)++".<locals>.")++"<lambda>"
noncomputable def TabOk (H:Hp) (ps:Array Value):Prop:=TriplesOk ps.toList/\∀pos cv,codeAmong pos ps.toList=some cv->∃c oc vs t,cv=.ref c/\H c=some (.frz oc (.ext fun _=>True))/\oc.data=.fields vs/\vs[1]?=some (.str lamQ t)
theorem TabOk.map {H H':Hp}{ps:Array Value}(h:TabOk H ps)(f:∀b ob u,H b=some (.frz ob u)->H' b=some (.frz ob u)):TabOk H' ps :=
 ⟨h.1,fun pos cv e=>by obtain⟨c,oc,vs,t,e1,e2,e3⟩:=h.2 pos cv e;exact⟨c,oc,vs,t,e1,f _ _ _ e2,e3⟩⟩
noncomputable def KiAt (K:Fg) (ρ:Loc) (H:Hp):List (Int×D)->List (Key×V)->Prop:=Paired fun p q=>q.1=Sum.inl p.1/\At K ρ H p.2 q.2
theorem KiAt.ext {K:Fg}{ρ ρ':Loc}{H H':Hp}(x:Ext ρ H ρ' H'){a:List (Int×D)}{b:List (Key×V)}(h:KiAt K ρ H a b):KiAt K ρ' H' a b:=Paired.mapP h fun p q z=>⟨z.1,z.2.ext x⟩
noncomputable def OAt (K:Fg) (ρ:Loc) (H:Hp):O->Addr->Prop
 | .lst xs,a=>∃vs,H a=some (.lst vs)/\AtAll K ρ H xs vs
 | .dT kvs,a=>∃vs,H a=some (.dT vs)/\KvAt K ρ H kvs vs
 | .fT kvs,a=>∃vs ob,H a=some (.frz ob (.dT vs))/\KvAt K ρ H kvs vs
 | .dI kvs,a=>∃vs,H a=some (.dK vs)/\KiAt K ρ H kvs vs
 | .dead,_=>False
 | .tab, a=>(∃ c, W.tabIn K "law"=some (c, a))/\∃ ps, H a=some (.tbl ps)/\TabOk H ps
structure Rep (K:Fg) (ρ:Loc) (st:Store) (H:Hp):Prop where
 len:ρ.m.length=st.length
 inj:∀(n m:Nat) (a:Addr),ρ.m[n]?=some (some a)->ρ.m[m]?=some (some a)->n=m
 obj:∀(n:Nat) (a:Addr) (o:O),ρ.m[n]?=some (some a)->st[n]?=some o->OAt K ρ H o a
 gh:∀a∈ρ.g,(∃vs,H a=some (.lst vs))/\some a∉ρ.m
 live:∀(n:Nat) (o:O),st[n]?=some o->o≠.dead->∃a,ρ.m[n]?=some (some a)
noncomputable def AtO (K:Fg) (ρ:Loc) (H:Hp) (o:Option D) (v:Option V):Prop:=∀d,o=some d->∃u,v=some u/\At K ρ H d u
noncomputable abbrev AtS (K:Fg) (ρ:Loc) (H:Hp):DS->St->Prop:=Paired (AtO K ρ H)
theorem AtS.ext {ρ ρ':Loc}{H H':Hp}(x:Ext ρ H ρ' H'){σ:DS}{τ:St}(h:AtS K ρ H σ τ):AtS K ρ' H' σ τ:=Paired.mapP h fun o v z d e=>by
 obtain⟨u,e1,a⟩:=z d e;exact⟨u,e1,a.ext x⟩
theorem AtS.get {ρ:Loc}{H:Hp}:∀{σ:DS} {τ:St} {i:Nat} {d:D},AtS K ρ H σ τ->σ[i]?=some (some d)->∃u,τ[i]?=some (some u)/\At K ρ H d u
 | _,_,_,_,.nil,e=>by simp at e
 | _,_,0,_,.cons a _,e=>by
  simp at e;subst e
  obtain⟨u,e1,h⟩:=a _ rfl;exact⟨u,by simp[e1],h⟩
 | _,_,i+1,d,.cons _ t,e=>by
  obtain⟨u,h1,h2⟩:=AtS.get (i:=i) (d:=d) t (by simpa using e);exact⟨u,by simpa using h1,h2⟩
theorem AtS.set {ρ:Loc}{H:Hp}{d:D}{v:V}(a:At K ρ H d v):∀{σ:DS} {τ:St} (i:Nat),AtS K ρ H σ τ->AtS K ρ H (σ.set i (some d)) (τ.set i (some v))
 | _,_,_,.nil=>.nil
 | _,_,0,.cons _ t=>.cons (fun d' e=>by cases e;exact⟨v,rfl,a⟩) t
 | _,_,i+1,.cons q t=>.cons q (AtS.set a i t)
end
noncomputable def tD (K:Fg) (f:SE):TE:=fun τ H Q=>∃ρ σ st v st',AtS K ρ H σ τ/\Rep K ρ st H/\f σ st=.ok v st'/\∀ρ' H' u,Ext ρ H ρ' H'->Rep K ρ' st' H'->At K ρ' H' v u->Q u H'
noncomputable def tDT (K:Fg) (f:ST):TT:=fun τ H Q=>∃ρ σ st v st',AtS K ρ H σ τ/\Rep K ρ st H/\f σ st=.ok v st'/\∀ρ' H',Ext ρ H ρ' H'->Rep K ρ' st' H'->Q v H'
noncomputable def tDA (K:Fg) (f:SA):TA:=fun τ H Q=>∃ρ σ st v st',AtS K ρ H σ τ/\Rep K ρ st H/\f σ st=.ok v st'/\∀ρ' H' u,Ext ρ H ρ' H'->Rep K ρ' st' H'->AtAll K ρ' H' v u->Q u H'
noncomputable def FlOk (K:Fg) (ρ:Loc) (H:Hp) (st':Store) (E:Ends):Fl->Prop
 | .nx σ=>∀ρ' H' τ,Ext ρ H ρ' H'->Rep K ρ' st' H'->AtS K ρ' H' σ τ->E.nx τ H'
 | .brk σ=>∀ρ' H' τ,Ext ρ H ρ' H'->Rep K ρ' st' H'->AtS K ρ' H' σ τ->E.bk τ H'
 | .ct σ=>∀ρ' H' τ,Ext ρ H ρ' H'->Rep K ρ' st' H'->AtS K ρ' H' σ τ->E.ct τ H'
 | .ret v=>∀ρ' H' u,Ext ρ H ρ' H'->Rep K ρ' st' H'->At K ρ' H' v u->E.rt u H'
theorem FlOk.ext {K:Fg}{ρ ρ1:Loc}{H H1:Hp}{st':Store}{E:Ends}{fl:Fl}(x:Ext ρ H ρ1 H1)(h:FlOk K ρ H st' E fl):FlOk K ρ1 H1 st' E fl:=by
 cases fl with
 | nx σ=>exact fun ρ' H' τ e=>h ρ' H' τ (x.trans e)
 | brk σ=>exact fun ρ' H' τ e=>h ρ' H' τ (x.trans e)
 | ct σ=>exact fun ρ' H' τ e=>h ρ' H' τ (x.trans e)
 | ret v=>exact fun ρ' H' τ e=>h ρ' H' τ (x.trans e)
noncomputable def tDS (K:Fg) (f:SS):TS:=fun E τ H=>∃ρ σ st fl st',AtS K ρ H σ τ/\Rep K ρ st H/\f σ st=.ok fl st'/\FlOk K ρ H st' E fl
noncomputable abbrev DE (X:Cx) (e:Expr) (f:SE):Prop:=PE X e (tD X.K f)
noncomputable abbrev DT (X:Cx) (e:Expr) (f:ST):Prop:=PT X e (tDT X.K f)
noncomputable abbrev DW (X:Cx) (e:Expr) (f:ST):Prop:=PW X e (tDT X.K f)
noncomputable abbrev DA (X:Cx) (es:List Expr) (f:SA):Prop:=PA X es (tDA X.K f)
noncomputable abbrev DSt (X:Cx) (s:Stmt) (f:SS):Prop:=PS X s (tDS X.K f)
noncomputable abbrev DSs (X:Cx) (s:List Stmt) (f:SS):Prop:=PSs X s (tDS X.K f)
section
variable {X:Cx}{e:Expr}{es:List Expr}{s:Stmt}{ss:List Stmt}
theorem zfp {t t':TE}(h:PE X e t)(k:∀σ H Q,t' σ H Q->t σ H Q):PE X e t':=fun aA s σ H Q I q=>h aA s σ H Q I (k _ _ _ q)
theorem zzq {t t':TT}(h:PT X e t)(k:∀σ H Q,t' σ H Q->t σ H Q):PT X e t':=fun aA s σ H Q I q=>h aA s σ H Q I (k _ _ _ q)
theorem pw_to {t t':TT}(h:PW X e t)(k:∀σ H Q,t' σ H Q->t σ H Q):PW X e t':=fun wh aA s σ H Q I q=>h wh aA s σ H Q I (k _ _ _ q)
theorem zbjv {t t':TA}(h:PA X es t)(k:∀σ H Q,t' σ H Q->t σ H Q):PA X es t':=fun pos aA s σ H Q I q=>h pos aA s σ H Q I (k _ _ _ q)
theorem zsv {t t':TS}(h:PS X s t)(k:∀E σ H,t' E σ H->t E σ H):PS X s t':=fun aA z σ H E I q=>h aA z σ H E I (k _ _ _ q)
theorem zbaw {t t':TS}(h:PSs X ss t)(k:∀E σ H,t' E σ H->t E σ H):PSs X ss t':=fun aA z σ H E I q=>h aA z σ H E I (k _ _ _ q)
end
noncomputable def eVar (i:Nat):SE:=fun σ st=>match σ[i]? with
 | some (some d)=>.ok d st
 | _=>.stuck
noncomputable def eC (d:D):SE:=fun _ st=>.ok d st
section
variable {X:Cx}
theorem zblk {e:Expr}{i:Nat}(h:PE X e (tVar i)):DE X e (eVar i):=zfp h fun τ H Q hq0=>by
 obtain⟨ρ,σ,st,v,st',a,r,e,q⟩:=hq0;unfold eVar at e;split at e
 ·rename_i d hd;cases e;obtain⟨u,e1,e2⟩:=a.get hd;exact⟨u,e1,q ρ H u (.refl _ _) r e2⟩
 ·cases e
theorem zbio {e:Expr}{v:V}{d:D}(h:PE X e (tC v))(k:∀ρ H,At X.K ρ H d v):DE X e (eC d):=zfp h fun τ H Q hq0=>by
 obtain⟨ρ,σ,st,v,st',a,r,e,q⟩:=hq0;cases e;exact q ρ H _ (.refl _ _) r (k _ _)
theorem zbls {i j pos}:DE X (.Constant (.int i) j pos) (eC (.int i)):=zbio zbgl fun _ _=>.int i
theorem d_bl {b j pos}:DE X (.Constant (.bool b) j pos) (eC (.bl b)):=zbio zbkr fun _ _=>.bl b
end
noncomputable def eOp (g:D->D->Store->Res D) (f f':SE):SE:=fun σ st=>(f σ st).bind fun x st1=>(f' σ st1).bind fun y st2=>g x y st2
noncomputable def eUn (g:D->Store->Res D) (f:SE):SE:=fun σ st=>(f σ st).bind fun x st1=>g x st1
noncomputable def OpD (K:Fg) (g:D->D->Store->Res D) (r:R2):Prop :=
 ∀ρ H st x y u v z st' (Q:VK),Rep K ρ st H->At K ρ H x u->At K ρ H y v->g x y st=.ok z st'->(∀ρ' H' w,Ext ρ H ρ' H'->Rep K ρ' st' H'->At K ρ' H' z w->Q w H')->r u v H Q
theorem zbez {K:Fg}{g:D->D->Store->Res D}{r:R2}(hr:OpD K g r){f f':SE}:∀τ H Q,tD K (eOp g f f') τ H Q->tOp r (tD K f) (tD K f') τ H Q:=fun τ H Q hq0=>by
 obtain⟨ρ,σ,st,v,st',a,rp,e,q⟩:=hq0;obtain⟨x,st1,e1,e⟩:=zc e;obtain⟨y,st2,e2,e⟩:=zc e;refine⟨ρ,σ,st,x,st1,a,rp,e1,fun ρ1 H1 u x1 rp1 a1=>?_⟩;refine⟨ρ1,σ,st1,y,st2,a.ext x1,rp1,e2,fun ρ2 H2 w x2 rp2 a2=>?_⟩;exact hr ρ2 H2 st2 x y u w v st' Q rp2 (a1.ext x2) a2 e fun ρ' H' z x3 rp3 a3=>q ρ' H' z (x1.trans (x2.trans x3)) rp3 a3
section
variable {X:Cx}{a b c:Expr}{f f' f'':SE}{pos:Pos}
theorem d_op {op:Operator}{r:R2}{g:D->D->Store->Res D}(ho:OpR X (binaryOp op) r)(hr:OpD X.K g r)(ha:DE X a f)(hb:DE X b f'):DE X (.BinOp a op b pos) (eOp g f f'):=zfp (zbkp ho ha hb) (zbez hr)
theorem zblv {op:CmpOp}{r:R2}{g:D->D->Store->Res D}(ho:OpR X (compareOp op) r)(hr:OpD X.K g r)(ha:DE X a f)(hb:DE X b f')(hm:behindInMarks op b=false):DE X (.Compare a [op] [b] pos) (eOp g f f'):=zfp (zbbr ho ha hb hm) (zbez hr)
noncomputable def eB (f:SE):ST:=fun σ st=>(f σ st).bind fun v st1=>match v with
 | .bl b=>.ok b st1
 | _=>.stuck
theorem eB_t {K:Fg}{f:SE}:∀τ H Q,tDT K (eB f) τ H Q->tD K f τ H fun x H1=>∃c,x=.bl c/\Q c H1:=fun τ H Q hq0=>by
 obtain⟨ρ,σ,st,v,st',a,rp,e,q⟩:=hq0;obtain⟨x,st1,e1,e⟩:=zc e;refine⟨ρ,σ,st,x,st1,a,rp,e1,fun ρ1 H1 u x1 rp1 a1=>?_⟩;cases x<;>try (cases e;done)
 cases e;cases a1;exact⟨_,rfl,q _ _ x1 rp1⟩
theorem zbhw {op:CmpOp}{r:R2}{g:D->D->Store->Res D}(ho:OpR X (compareOp op) r)(hr:OpD X.K g r)(ha:DE X a f)(hb:DE X b f')(hm:behindInMarks op b=false):DT X (.Compare a [op] [b] pos) (eB (eOp g f f')) :=
 zzq (zbav ho ha hb hm) fun τ H Q h=>zbez hr _ _ _ (eB_t _ _ _ h)
noncomputable def eChain (g g':D->D->Store->Res D) (f f' f'':SE):SE:=fun σ st=>(f σ st).bind fun x st1=>(f' σ st1).bind fun y st2=>(g x y st2).bind fun z st3=>match z with
 | .bl true=>(f'' σ st3).bind fun w st4=>g' y w st4
 | .bl false=>.ok (.bl false) st3
 | _=>.stuck
theorem zbei {K:Fg}{g g':D->D->Store->Res D}{r r':R2}(hr:OpD K g r)(hr':OpD K g' r'){f f' f'':SE}:∀τ H Q,tD K (eChain g g' f f' f'') τ H Q->tChain r r' (tD K f) (tD K f') (tD K f'') τ H Q:=fun τ H Q hq0=>by
 obtain⟨ρ,σ,st,v,st',a,rp,e,q⟩:=hq0;obtain⟨x,st1,e1,e⟩:=zc e;obtain⟨y,st2,e2,e⟩:=zc e;obtain⟨z,st3,e3,e⟩:=zc e;refine⟨ρ,σ,st,x,st1,a,rp,e1,fun ρ1 H1 u x1 rp1 a1=>?_⟩;refine⟨ρ1,σ,st1,y,st2,a.ext x1,rp1,e2,fun ρ2 H2 w x2 rp2 a2=>?_⟩;refine hr ρ2 H2 st2 x y u w z st3 _ rp2 (a1.ext x2) a2 e3 fun ρ3 H3 zz x3 rp3 a3=>?_
 have X3:=x1.trans (x2.trans x3);cases z<;>try (cases e;done)
 rename_i b;cases a3;refine⟨b,rfl,?_⟩;cases b with
 | true =>
  obtain⟨t,st4,e4,e⟩:=zc e;rw[if_pos rfl];refine⟨ρ3,σ,st3,t,st4,a.ext X3,rp3,e4,fun ρ4 H4 tt x4 rp4 a4=>?_⟩;exact hr' ρ4 H4 st4 y t w tt v st' Q rp4 (a2.ext (x3.trans x4)) a4 e fun ρ' H' zz x5 rp5 a5=>q ρ' H' zz (X3.trans (x4.trans x5)) rp5 a5
 | false =>
  cases e;rw[if_neg (by decide)];exact q ρ3 H3 _ X3 rp3 (.bl false)
end
end Dd
namespace Dd
open PySem L2
section
variable {K:Fg}{ρ:Loc}{st:Store}{H:Hp}{p a:Addr}{o:HO}{n:Nat}
theorem Ext.new (hp:H p=none)(o:HO):Ext ρ H ρ (upd H p o):=⟨xbg _,fun _ _ _ e=>e,fun b u e m=>⟨by rw[zv (zl e hp)];exact e,m⟩,rfl,fun b ob u e=>by rw[zv (zl e hp)];exact e⟩
theorem zfz {vs:List V}(h:H a=some (.lst vs)):∀ob u,H a≠some (.frz ob u):=fun ob u z=>by rw[h] at z;cases z
theorem zix {vs:List (List Key×V)}(h:H a=some (.dT vs)):∀ob u,H a≠some (.frz ob u):=fun ob u z=>by rw[h] at z;cases z
theorem Ext.wr (h:ρ.m[n]?=some (some a))(hz:∀ob u,H a≠some (.frz ob u))(o:HO):Ext ρ H ρ (upd H a o):=⟨xbg _,fun _ _ _ e=>e,fun b u e m=>⟨by
 rw[zv]
 ·exact e
 ·rintro rfl
  exact m (xbs h),m⟩,rfl,fun b ob u e=>by
 rw[zv]
 ·exact e
 ·rintro rfl
  exact hz _ _ e⟩
theorem OAt.has {x:O}(h:OAt K ρ H x a):∃u,H a=some u:=by
 cases x with
 | lst xs=>obtain⟨vs,e,_⟩:=h;exact⟨_,e⟩
 | dT kvs=>obtain⟨vs,e,_⟩:=h;exact⟨_,e⟩
 | fT kvs=>obtain⟨vs,ob,e,_⟩:=h;exact⟨_,e⟩
 | dI kvs=>obtain⟨vs,e,_⟩:=h;exact⟨_,e⟩
 | dead=>exact h.elim
 | tab=>obtain⟨_,ps,e,_⟩:=h;exact⟨_,e⟩
theorem OAt.ext {ρ':Loc}{H':Hp}{x:O}(e:Ext ρ H ρ' H')(same:H' a=H a)(h:OAt K ρ H x a):OAt K ρ' H' x a:=by
 cases x with
 | lst xs=>obtain⟨vs,q,r⟩:=h;exact⟨vs,by rw[same];exact q,r.ext e⟩
 | dT kvs=>obtain⟨vs,q,r⟩:=h;exact⟨vs,by rw[same];exact q,r.ext e⟩
 | fT kvs=>obtain⟨vs,ob,q,r⟩:=h;exact⟨vs,ob,by rw[same];exact q,r.ext e⟩
 | dI kvs=>obtain⟨vs,q,r⟩:=h;exact⟨vs,by rw[same];exact q,r.ext e⟩
 | dead=>exact h.elim
 | tab=>obtain⟨c,ps,q,r⟩:=h;exact⟨c,ps,by rw[same];exact q,r.map e.frz⟩
theorem Rep.has (r:Rep K ρ st H)(h:ρ.m[n]?=some (some a)):∃x,st[n]?=some x/\OAt K ρ H x a:=by
 have hn:n < st.length:=by rw[← r.len];exact(xbc.mp h).1
 exact⟨st[n],xbe hn,r.obj n a _ h (xbe hn)⟩
theorem Rep.new (r:Rep K ρ st H)(hp:H p=none)(o:HO):Rep K ρ st (upd H p o):=⟨r.len,r.inj,fun m b x e1 e2=>by
 have q:=r.obj m b x e1 e2;obtain⟨u,hu⟩:=q.has;exact q.ext (Ext.new hp o) (zv (zl hu hp)),fun b hb=>by
 obtain⟨⟨u,hu⟩,n⟩:=r.gh b hb
 exact⟨⟨u,by rw[zv (zl hu hp)];exact hu⟩,n⟩,r.live⟩
theorem Rep.wr (r:Rep K ρ st H)(h:ρ.m[n]?=some (some a))(hz:∀ob u,H a≠some (.frz ob u)){x:O}{o:HO}(q:OAt K ρ (upd H a o) x a):Rep K ρ (st.set n x) (upd H a o):=⟨by rw[r.len,xcm],r.inj,fun m b y e1 e2=>by
 by_cases hm:m=n
 ·subst hm;have hb:b=a:=by rw[h] at e1;exact(xcp (xcp e1)).symm
  subst hb;have hl:m < st.length:=by rw[← r.len];exact(xbc.mp h).1
  rw[xee hl] at e2;cases e2;exact q
 ·rw[xbi (xel hm)] at e2;refine(r.obj m b y e1 e2).ext (Ext.wr h hz o) (zv fun z=>hm ?_);subst z;exact r.inj m n b e1 h,fun b hb=>by
 obtain⟨⟨u,hu⟩,n1⟩:=r.gh b hb;refine⟨⟨u,?_⟩,n1⟩;rw[zv]
 ·exact hu
 ·rintro rfl;exact n1 (xbs h),fun m y e ne=>by
 by_cases hm:m=n
 ·subst hm;exact⟨a,h⟩
 ·rw[xbi (xel hm)] at e
  exact r.live m y e ne⟩
theorem Rep.alloc (r:Rep K ρ st H)(hp:H p=none){x:O}{o:HO}(q:Ext ρ H ⟨ρ.m++[some p],ρ.g⟩ (upd H p o)->OAt K ⟨ρ.m++[some p],ρ.g⟩ (upd H p o) x p):Ext ρ H ⟨ρ.m++[some p],ρ.g⟩ (upd H p o)/\Rep K ⟨ρ.m++[some p],ρ.g⟩ (st++[x]) (upd H p o):=by
 have hn:∀(m:Nat) (b:Addr),(ρ.m++[some p])[m]?=some (some b)->(m < ρ.m.length/\ρ.m[m]?=some (some b))\/(m=ρ.m.length/\b=p):=fun m b e=>by
  rcases xhl m ρ.m.length with z | z
  ·rw[xbf z] at e;exact .inl ⟨z,e⟩
  ·rw[xcr z] at e;have z2:m - ρ.m.length=0:=by
    have:=(xbc.mp e).1;simp at this;lia
   rw[z2] at e;simp at e;exact .inr ⟨by lia,e.symm⟩
 have nl:∀(m:Nat),ρ.m[m]?≠some (some p):=fun m e=>by
  obtain⟨x,_,q⟩:=r.has e;obtain⟨u,hu⟩:=q.has;rw[hp] at hu;cases hu
 have E:Ext ρ H ⟨ρ.m++[some p],ρ.g⟩ (upd H p o):=⟨by rw[xbp];lia,fun m b h e=>by
   rw[xbf h] at e;exact e,fun b u e m=>⟨by rw[zv (zl e hp)];exact e,fun z=>by
   rcases xch.mp z with z | z
   ·exact m z
   ·simp at z;subst z;rw[hp] at e;cases e⟩,rfl,fun b ob u e=>by rw[zv (zl e hp)];exact e⟩
 refine⟨E,⟨by rw[xbp,xbp,r.len];rfl,fun m k b e1 e2=>?_,fun m b y e1 e2=>?_,fun b hb=>?_,fun m y e ne=>?_⟩⟩
 ·rcases hn m b e1 with⟨h1,q1⟩ | ⟨h1,rfl⟩
  ·rcases hn k b e2 with⟨h2,q2⟩ | ⟨h2,rfl⟩
   ·exact r.inj m k b q1 q2
   ·exact absurd q1 (nl m)
  ·rcases hn k b e2 with⟨h2,q2⟩ | ⟨h2,_⟩
   ·exact absurd q2 (nl k)
   ·lia
 ·rcases hn m b e1 with⟨h1,q1⟩ | ⟨h1,rfl⟩
  ·rw[xbf (by rw[← r.len];exact h1)] at e2;have q:=r.obj m b y q1 e2;obtain⟨u,hu⟩:=q.has;exact q.ext E (zv (zl hu hp))
  ·rw[h1,r.len,xcr (xbg _)] at e2;simp at e2;subst e2;exact q E
 ·obtain⟨⟨u,hu⟩,n1⟩:=r.gh b hb;refine⟨⟨u,by rw[zv (zl hu hp)];exact hu⟩,fun z=>?_⟩;rcases xch.mp z with z | z
  ·exact n1 z
  ·simp at z;subst z;rw[hp] at hu;cases hu
 ·rcases xhl m st.length with z | z
  ·rw[xbf z] at e;obtain⟨b,hb⟩:=r.live m y e ne;exact⟨b,by rw[xbf (by rw[r.len];exact z)];exact hb⟩
  ·have z2:=(xbc.mp e).1;simp at z2;have z3:m=ρ.m.length:=by rw[r.len];lia
   exact⟨p,by rw[z3,xcr (xbg _)];simp⟩
theorem Rep.kill (r:Rep K ρ st H)(h:n < ρ.m.length):Ext ρ H ⟨ρ.m.set n none,ρ.g⟩ H/\Rep K ⟨ρ.m.set n none,ρ.g⟩ (st.set n .dead) H:=by
 have hn:∀(m:Nat) (b:Addr),(ρ.m.set n none)[m]?=some (some b)->m≠n/\ρ.m[m]?=some (some b):=fun m b e=>by
  by_cases z:m=n
  ·subst z;rw[xee h] at e;simp at e
  ·rw[xbi (xel z)] at e;exact⟨z,e⟩
 have E:Ext ρ H ⟨ρ.m.set n none,ρ.g⟩ H:=⟨by rw[xcm];exact xbg _,fun m b _ e=>(hn m b e).2,fun b o e m=>⟨e,fun z=>by
  obtain⟨i,hi,e2⟩:=xdx z;have:(ρ.m.set n none)[i]?=some (some b):=by rw[xbe hi,e2]
  exact m (xbs (hn i b this).2)⟩,rfl,fun _ _ _ e=>e⟩
 refine⟨E,⟨by rw[xcm,xcm,r.len],fun m k b e1 e2=>r.inj m k b (hn m b e1).2 (hn k b e2).2,fun m b y e1 e2=>?_,fun b hb=>⟨(r.gh b hb).1,fun z=>?_⟩,fun m y e ne=>?_⟩⟩
 rotate_left
 ·obtain⟨i,hi,e2⟩:=xdx z;have:(ρ.m.set n none)[i]?=some (some b):=by rw[xbe hi,e2]
  exact(r.gh b hb).2 (xbs (hn i b this).2)
 ·have z:m≠n:=by
   rintro rfl;rw[xee (by rw[← r.len];exact h)] at e;cases e;exact ne rfl
  rw[xbi (xel z)] at e;obtain⟨b,hb⟩:=r.live m y e ne;exact⟨b,by rw[xbi (xel z)];exact hb⟩
 obtain⟨z,q⟩:=hn m b e1;rw[xbi (xel z)] at e2;exact(r.obj m b y q e2).ext E rfl
theorem zjw (r:Rep K ρ st H)(hp:H p=none):Out ρ p:=by
 refine⟨fun z=>?_,fun z=>?_⟩
 ·obtain⟨i,hi,e⟩:=xdx z;obtain⟨x,_,q⟩:=r.has (n:=i) (a:=p) (by rw[xbe hi,e]);obtain⟨u,hu⟩:=q.has;rw[hp] at hu;cases hu
 ·obtain⟨⟨u,hu⟩,_⟩:=r.gh p z;rw[hp] at hu;cases hu
theorem At.newT (r:Rep K ρ st H)(hp:H p=none){ds:List D}{vs:List V}(h:AtAll K ρ H ds vs):At K ρ (upd H p (.tup vs)) (.tup ds) (.ref p):=.tup zx (zjw r hp) (h.ext (Ext.new hp _))
theorem At.newL (r:Rep K ρ st H)(hp:H p=none){ds:List D}{vs:List V}(h:AtAll K ρ H ds vs):At K ρ (upd H p (.lst vs)) (.lst ds) (.ref p):=.lst zx (zjw r hp) (h.ext (Ext.new hp _))
end
noncomputable def eAnd (f f':SE):SE:=fun σ st=>(f σ st).bind fun v st1=>match v with
 | .bl true=>f' σ st1
 | .bl false=>.ok (.bl false) st1
 | _=>.stuck
noncomputable def eOr (f f':SE):SE:=fun σ st=>(f σ st).bind fun v st1=>match v with
 | .bl true=>.ok (.bl true) st1
 | .bl false=>f' σ st1
 | _=>.stuck
noncomputable def eNot (f:SE):SE:=fun σ st=>(f σ st).bind fun v st1=>match v with
 | .bl b=>.ok (.bl (!b)) st1
 | _=>.stuck
noncomputable def bAnd (f f':ST):ST:=fun σ st=>(f σ st).bind fun b st1=>if b=true then f' σ st1 else .ok false st1
noncomputable def bOr (f f':ST):ST:=fun σ st=>(f σ st).bind fun b st1=>if b=true then .ok true st1 else f' σ st1
noncomputable def bNot (f:ST):ST:=fun σ st=>(f σ st).bind fun b st1=>.ok (!b) st1
noncomputable def eIf (c:ST) (f f':SE):SE:=fun σ st=>(c σ st).bind fun b st1=>if b=true then f σ st1 else f' σ st1
section
variable {X:Cx}{a b:Expr}{rest:List Expr}{f f':SE}{t t':ST}{pos:Pos}
theorem zblo {op}(h:DE X a f):DE X (.BoolOp op [a] pos) f:=zbgj h
theorem zblw (ha:DE X a f)(hb:DE X (.BoolOp .And (b::rest) pos) f'):DE X (.BoolOp .And (a::b::rest) pos) (eAnd f f'):=zfp (zbgn ha hb) fun τ H Q hq0=>by
 obtain⟨ρ,σ,st,v,st',at',rp,e,q⟩:=hq0;obtain⟨x,st1,e1,e⟩:=zc e;refine⟨ρ,σ,st,x,st1,at',rp,e1,fun ρ1 H1 u x1 rp1 a1=>?_⟩;cases x<;>try (cases e;done)
 rename_i bb;cases a1;refine⟨bb,rfl,?_⟩;cases bb with
 | true =>
  rw[if_pos rfl];exact⟨ρ1,σ,st1,v,st',at'.ext x1,rp1,e,fun ρ' H' u x2=>q ρ' H' u (x1.trans x2)⟩
 | false =>
  rw[if_neg (by decide)];cases e;exact q _ _ _ x1 rp1 (.bl false)
theorem d_or (ha:DE X a f)(hb:DE X (.BoolOp .Or (b::rest) pos) f'):DE X (.BoolOp .Or (a::b::rest) pos) (eOr f f'):=zfp (zbko ha hb) fun τ H Q hq0=>by
 obtain⟨ρ,σ,st,v,st',at',rp,e,q⟩:=hq0;obtain⟨x,st1,e1,e⟩:=zc e;refine⟨ρ,σ,st,x,st1,at',rp,e1,fun ρ1 H1 u x1 rp1 a1=>?_⟩;cases x<;>try (cases e;done)
 rename_i bb;cases a1;refine⟨bb,rfl,?_⟩;cases bb with
 | false =>
  rw[if_neg (by decide)];exact⟨ρ1,σ,st1,v,st',at'.ext x1,rp1,e,fun ρ' H' u x2=>q ρ' H' u (x1.trans x2)⟩
 | true =>
  rw[if_pos rfl];cases e;exact q _ _ _ x1 rp1 (.bl true)
theorem zblp (ha:DE X a f):DE X (.UnaryOp .Not a pos) (eNot f):=zfp (zbgk ha) fun τ H Q hq0=>by
 obtain⟨ρ,σ,st,v,st',at',rp,e,q⟩:=hq0;obtain⟨x,st1,e1,e⟩:=zc e;refine⟨ρ,σ,st,x,st1,at',rp,e1,fun ρ1 H1 u x1 rp1 a1=>?_⟩;cases x<;>try (cases e;done)
 rename_i bb;cases a1;cases e;exact⟨bb,rfl,q _ _ _ x1 rp1 (.bl _)⟩
theorem zbhs {op}(h:DT X a t)(hop:op=.And\/op=.Or):DW X (.BoolOp op [a] pos) t:=by
 rcases hop with rfl | rfl
 ·exact pw_and1 h
 ·exact pw_or1 h
theorem zblh (ha:DT X a t)(hb:DW X (.BoolOp .Or (b::rest) pos) t'):DW X (.BoolOp .Or (a::b::rest) pos) (bOr t t'):=pw_to (pw_or ha hb) fun τ H Q hq0=>by
 obtain⟨ρ,σ,st,v,st',at',rp,e,q⟩:=hq0;obtain⟨x,st1,e1,e⟩:=zc e;refine⟨ρ,σ,st,x,st1,at',rp,e1,fun ρ1 H1 x1 rp1=>?_⟩;cases x with
 | false=>exact iteF ⟨ρ1,σ,st1,v,st',at'.ext x1,rp1,e,fun ρ' H' x2=>q ρ' H' (x1.trans x2)⟩
 | true=>cases e;exact iteT (q _ _ x1 rp1)
theorem zbhu (ha:DT X a t):DT X (.UnaryOp .Not a pos) (bNot t):=zzq (zbfw ha) fun τ H Q hq0=>by
 obtain⟨ρ,σ,st,v,st',at',rp,e,q⟩:=hq0;obtain⟨x,st1,e1,e⟩:=zc e;cases e;exact⟨ρ,σ,st,x,_,at',rp,e1,fun ρ1 H1 x1 rp1=>q _ _ x1 rp1⟩
theorem d_if {c:Expr}(hc:DT X c t)(ha:DE X a f)(hb:DE X b f'):DE X (.IfExp c a b pos) (eIf t f f'):=zfp (zwu hc ha hb) fun τ H Q hq0=>by
 obtain⟨ρ,σ,st,v,st',at',rp,e,q⟩:=hq0;obtain⟨x,st1,e1,e⟩:=zc e;refine⟨ρ,σ,st,x,st1,at',rp,e1,fun ρ1 H1 x1 rp1=>?_⟩;cases x with
 | true=>exact iteT ⟨ρ1,σ,st1,v,st',at'.ext x1,rp1,e,fun ρ' H' u x2=>q ρ' H' u (x1.trans x2)⟩
 | false=>exact iteF ⟨ρ1,σ,st1,v,st',at'.ext x1,rp1,e,fun ρ' H' u x2=>q ρ' H' u (x1.trans x2)⟩
end
noncomputable def aNil:SA:=fun _ st=>.ok [] st
noncomputable def aCons (f:SE) (g:SA):SA:=fun σ st=>(f σ st).bind fun x st1=>(g σ st1).bind fun xs st2=>.ok (x::xs) st2
noncomputable def eTup (g:SA):SE:=fun σ st=>(g σ st).bind fun xs st1=>if xs.length<=sizeLine then .ok (.tup xs) st1 else .stuck
noncomputable def eLst (g:SA):SE:=fun σ st=>(g σ st).bind fun xs st1=>if xs.length<=sizeLine then .ok (.lst xs) st1 else .stuck
noncomputable def eLstM (g:SA):SE:=fun σ st=>(g σ st).bind fun xs st1=>if xs.length<=sizeLine then .ok (.ref st1.length) (st1++[.lst xs]) else .stuck
section
variable {X:Cx}{e:Expr}{es:List Expr}{f:SE}{g:SA}{pos:Pos}
theorem zbif:DA X [] aNil:=zbjv zbgp fun τ H Q hq0=>by
 obtain⟨ρ,σ,st,v,st',a,rp,e,q⟩:=hq0;cases e;exact q _ _ _ (.refl _ _) rp .nil
theorem zbdy (ha:DE X e f)(hr:DA X es g)(hs:starEach (e::es) X.env=(false,eval e X.env)::starEach es X.env:=by rfl):DA X (e::es) (aCons f g):=zbjv (zbbu ha hr hs) fun τ H Q hq0=>by
 obtain⟨ρ,σ,st,v,st',a,rp,e,q⟩:=hq0;obtain⟨x,st1,e1,e⟩:=zc e;obtain⟨y,st2,e2,e⟩:=zc e;cases e;refine⟨ρ,σ,st,x,st1,a,rp,e1,fun ρ1 H1 u x1 rp1 a1=>?_⟩;exact⟨ρ1,σ,st1,y,_,a.ext x1,rp1,e2,fun ρ2 H2 w x2 rp2 a2=>q _ _ _ (x1.trans x2) rp2 (.cons (a1.ext x2) a2)⟩
theorem zbll {x1}(h:DA X es g):DE X (.Tuple es x1 pos) (eTup g):=zfp (zbgi h) fun τ H Q hq0=>by
 obtain⟨ρ,σ,st,v,st',a,rp,e,q⟩:=hq0;obtain⟨x,st1,e1,e⟩:=zc e;split at e
 ·rename_i hl;cases e;refine⟨ρ,σ,st,x,_,a,rp,e1,fun ρ1 H1 u x1 rp1 a1=>⟨by rw[a1.length];exact hl,fun p hp=>?_⟩⟩;exact q ρ1 _ _ (x1.trans (Ext.new hp _)) (rp1.new hp _) (.newT rp1 hp a1)
 ·cases e
theorem zblr (h:DA X es g):DE X (.List es pos) (eLst g):=zfp (zbbn h) fun τ H Q hq0=>by
 obtain⟨ρ,σ,st,v,st',a,rp,e,q⟩:=hq0;obtain⟨x,st1,e1,e⟩:=zc e;split at e
 ·rename_i hl;cases e;refine⟨ρ,σ,st,x,_,a,rp,e1,fun ρ1 H1 u x1 rp1 a1=>⟨by rw[a1.length];exact hl,fun p hp=>?_⟩⟩;exact q ρ1 _ _ (x1.trans (Ext.new hp _)) (rp1.new hp _) (.newL rp1 hp a1)
 ·cases e
theorem At.last {K:Fg}{ρ:Loc}{H:Hp}{p:Addr}{n:Nat}(h:n=ρ.m.length):At K ⟨ρ.m++[some p],ρ.g⟩ H (.ref n) (.ref p):=by
 subst h;refine .ref (by simp) fun a e=>?_
 simp at e;rw[e]
theorem zbii (h:DA X es g):DE X (.List es pos) (eLstM g):=zfp (zbbn h) fun τ H Q hq0=>by
 obtain⟨ρ,σ,st,v,st',a,rp,e,q⟩:=hq0;obtain⟨x,st1,e1,e⟩:=zc e;split at e
 ·rename_i hl;cases e;refine⟨ρ,σ,st,x,_,a,rp,e1,fun ρ1 H1 u x1 rp1 a1=>⟨by rw[a1.length];exact hl,fun p hp=>?_⟩⟩;obtain⟨E,R⟩:=rp1.alloc hp (x:=.lst x) (o:=.lst u) fun E=>⟨u,zx,a1.ext E⟩
  exact q _ _ _ (x1.trans E) R (.last rp1.len.symm)
 ·cases e
end
noncomputable def asL (st:Store):D->Option (List D)
 | .lst xs=>some xs
 | .ref n=>match st[n]? with
  | some (.lst xs)=>some xs
  | _=>none
 | _=>none
section
variable {K:Fg}{ρ:Loc}{st:Store}{H:Hp}{d:D}{u:V}{xs:List D}
theorem zdr (rp:Rep K ρ st H){n:Nat}{o:O}(a:At K ρ H (.ref n) u)(e:st[n]?=some o)(hd:o≠.dead):∃p,u=.ref p/\ρ.m[n]?=some (some p)/\OAt K ρ H o p:=by
 cases a with
 | ref h1 h2 =>
  obtain⟨p,hp⟩:=rp.live n o e hd;exact⟨p,h2 p hp,hp,rp.obj n p o hp e⟩
theorem zgl (rp:Rep K ρ st H)(a:At K ρ H d u)(e:asL st d=some xs):∃p vs,u=.ref p/\H p=some (.lst vs)/\AtAll K ρ H xs vs:=by
 cases d<;>try (cases e;done)
 ·rename_i n;unfold asL at e;dsimp only at e;split at e
  ·rename_i ys hys;cases e;obtain⟨p,rfl,hp,vs,q1,q2⟩:=zdr rp a hys (by intro z;cases z);exact⟨p,vs,rfl,q1,q2⟩
  ·cases e
 ·cases e;cases a with
  | lst h1 h2 h3=>exact⟨_,_,rfl,h1,h3⟩
end
noncomputable def oI (C:Int->Int->Prop) [DecidableRel C] (h:Int->Int->D) (x y:D) (st:Store):Res D:=match x,y with
 | .int i,.int j=>if C i j then .ok (h i j) st else .stuck
 | _,_=>.stuck
theorem oI_D {K:Fg}{C:Int->Int->Prop}[DecidableRel C]{h:Int->Int->D}{g:Int->Int->V}(k:∀i j ρ H,At K ρ H (h i j) (g i j)):OpD K (oI C h) (rI C g):=fun ρ H st x y u v z st' Q rp a b e q=>by
 unfold oI at e;split at e
 ·cases a;cases b;split at e
  ·rename_i hc;cases e;exact⟨_,_,rfl,rfl,hc,q _ _ _ (.refl _ _) rp (k _ _ _ _)⟩
  ·cases e
 ·cases e
theorem zia {K:Fg}{h:Int->Int->D}{g:Int->Int->V}(k:∀i j ρ H,At K ρ H (h i j) (g i j)):OpD K (oI (fun _ _=>True) h) (rI0 g):=fun ρ H st x y u v z st' Q rp a b e q=>by
 obtain⟨i,j,e1,e2,_,e3⟩:=oI_D (C:=fun _ _=>True) k ρ H st x y u v z st' Q rp a b e q;exact⟨i,j,e1,e2,e3⟩
noncomputable instance:DecidableRel CMul:=fun i j=>by unfold CMul;infer_instance
noncomputable instance:DecidableRel CDivP:=fun i j=>by unfold CDivP;infer_instance
noncomputable instance:DecidableRel CPow:=fun i j=>by unfold CPow;infer_instance
noncomputable abbrev oSub:=oI (fun _ _=>True) fun i j=>.int (i - j)
noncomputable abbrev oFdiv:=oI CDivP fun i j=>.int (i / j)
noncomputable abbrev oMod:=oI (fun _ j=>0 < j) fun i j=>.int (i % j)
noncomputable abbrev oAndI:=oI (fun _ _=>True) fun i j=>.int (Builtin.bitAnd i j)
noncomputable abbrev oPow:=oI CPow fun i j=>.int (i ^ j.toNat)
noncomputable abbrev oMulI:=oI CMul fun i j=>.int (i * j)
noncomputable def oAdd (x y:D) (st:Store):Res D:=match x,y with
 | .int i,.int j=>.ok (.int (i+j)) st
 | .tup a,.tup b=>if a.length+b.length<=sizeLine then .ok (.tup (a++b)) st else .stuck
 | .str a,.str b=>if a.length+b.length<=sizeLine then .ok (.str (a++b)) st else .stuck
 | x,y=>match asL st x,asL st y with
  | some a,some b=>if a.length+b.length<=sizeLine then .ok (.lst (a++b)) st else .stuck
  | _,_=>.stuck
noncomputable abbrev rAddA (K:Fg):R2:=fun x y H Q=>rI0 (fun i j=>.int (i+j)) x y H Q\/rCatA K x y H Q\/(∃i j,x=.str i/\y=.str j/\i.length+j.length<=sizeLine/\Q (.str (i++j)) H)\/rCat x y H Q
section
variable {X:Cx}
theorem zbb:OpR X (binaryOp .Add) (rAddA X.K):=zbgw.or (zbbx.or (zqi.or zbgv))
theorem zbv {K:Fg}:OpD K oAdd (rAddA K):=fun ρ H st x y u v z st' Q rp a b e q=>by
 unfold oAdd at e;split at e
 ·cases a;cases b;cases e;exact .inl ⟨_,_,rfl,rfl,q _ _ _ (.refl _ _) rp (.int _)⟩
 ·rename_i ds es;split at e
  ·rename_i hl;cases e;refine .inr (.inl ?_);cases a with
   | tup h1 h2 h3 =>
    cases b with
    | tup k1 k2 k3 =>
     refine⟨_,_,_,_,rfl,rfl,SqT.of h1,SqT.of k1,by rw[h3.length,k3.length];exact hl,fun z=>?_,fun z1 z2=>?_,fun z1 z2 p hp=>?_⟩
     ·subst z;cases h3;exact q _ _ _ (.refl _ _) rp (.tup k1 k2 k3)
     ·subst z2;cases k3;rw[xep] at q;exact q _ _ _ (.refl _ _) rp (.tup h1 h2 h3)
     ·exact q _ _ _ (Ext.new hp _) (rp.new hp _) (.newT rp hp (h3.append k3))
  ·cases e
 ·split at e
  ·rename_i hl;cases a;cases b;cases e;exact .inr (.inr (.inl ⟨_,_,rfl,rfl,hl,q _ _ _ (.refl _ _) rp (.str _)⟩))
  ·cases e
 ·split at e
  ·rename_i h1 h2;split at e
   ·rename_i hl;cases e;obtain⟨p,vs,rfl,g1,g2⟩:=zgl rp a h1;obtain⟨p',ws,rfl,k1,k2⟩:=zgl rp b h2;exact .inr (.inr (.inr ⟨_,_,_,_,rfl,rfl,g1,k1,by rw[g2.length,k2.length];exact hl,fun t ht=>q _ _ _ (Ext.new ht _) (rp.new ht _) (.newL rp ht (g2.append k2))⟩))
   ·cases e
  ·cases e
end
noncomputable abbrev oLe:=oI (fun _ _=>True) fun i j=>.bl (decide (i<=j))
noncomputable abbrev oGt:=oI (fun _ _=>True) fun i j=>.bl (decide (j < i))
mutual
noncomputable def toData:D->Option PyData
 | .non=>some .none
 | .bl b=>some (.bool b)
 | .int i=>some (.int i)
 | .str x=>some (.str x)
 | .tup ds=>(toDatas ds).map .tuple
 | .lst ds=>(toDatas ds).map .list
 | _=>none
noncomputable def toDatas:List D->Option (List PyData)
 | []=>some []
 | d::ds=>(toData d).bind fun x=>(toDatas ds).map fun xs=>x::xs
end
mutual
theorem zvs {K:Fg}{ρ:Loc}{H:Hp}:∀{d:D} {v:V} {p:PyData},At K ρ H d v->toData d=some p->DAt K H v p
 | _,_,_,.non,e=>by cases e;exact .non
 | _,_,_,.bl b,e=>by cases e;exact .bl b
 | _,_,_,.int i,e=>by cases e;exact .int i
 | _,_,_,.str x,e=>by cases e;exact .str x
 | _,_,_,.ty n,e=>by cases e
 | _,_,_,.exn _,e=>by cases e
 | _,_,_,.ref _ _,e=>by cases e
 | _,_,_,.tup h _ al,e=>by
  rw[toData] at e;obtain⟨ps,e1,rfl⟩:=xcs.mp e;exact .tup (SqT.of h) (zki al e1)
 | _,_,_,.lst h _ al,e=>by
  rw[toData] at e;obtain⟨ps,e1,rfl⟩:=xcs.mp e;exact .lst (SqL.of h) (zki al e1)
 | _,_,_,.scr _ _,e=>by cases e
theorem zki {K:Fg}{ρ:Loc}{H:Hp}:∀{d:List D} {v:List V} {p:List PyData},AtAll K ρ H d v->toDatas d=some p->DAll K H v p
 | _,_,_,.nil,e=>by cases e;exact .nil
 | _,_,_,.cons a b,e=>by
  rw[toDatas] at e;obtain⟨x,e1,e⟩:=xey.mp e;obtain⟨xs,e2,rfl⟩:=xcs.mp e;exact .cons (zvs a e1) (zki b e2)
end
noncomputable def now (st:Store) (d:D):D:=match asL st d with
 | some xs=>.lst xs
 | none=>d
noncomputable def dataOf (st:Store) (d:D):Option PyData:=toData (now st d)
theorem zoh {K:Fg}{ρ:Loc}{st:Store}{H:Hp}(rp:Rep K ρ st H){d:D}{u:V}{p:PyData}(a:At K ρ H d u)(e:dataOf st d=some p):DAt K H u p:=by
 unfold dataOf now at e;split at e
 ·rename_i xs hx;obtain⟨q,vs,rfl,h1,h2⟩:=zgl rp a hx;rw[toData] at e;obtain⟨ps,e1,rfl⟩:=xcs.mp e;exact .lst (SqL.of h1) (zki h2 e1)
 ·exact zvs a e
noncomputable def oEqG (neg:Bool) (x y:D) (st:Store):Res D:=match dataOf st x,dataOf st y with
 | some a,some b=>if PySem.SeqAt.shaped a=true/\PySem.SeqAt.shaped b=true then .ok (.bl (if neg then !PyData.eqv a b else PyData.eqv a b)) st else .stuck
 | _,_=>.stuck
theorem zbfa {K:Fg}{neg:Bool}:OpD K (oEqG neg) (rEqX K neg):=fun ρ H st x y u v z st' Q rp a b e q=>by
 unfold oEqG at e;split at e
 ·rename_i p1 p2 h1 h2;split at e
  ·rename_i hs;cases e;exact⟨_,_,zoh rp a h1,zoh rp b h2,hs.1,hs.2,q _ _ _ (.refl _ _) rp (.bl _)⟩
  ·cases e
 ·cases e
noncomputable abbrev oEq:=oEqG false
noncomputable abbrev oNe:=oEqG true
noncomputable def asInts:List D->Option (List Int)
 | []=>some []
 | .int i::r=>(asInts r).map (i::·)
 | _::_=>none
theorem zef {K:Fg}{ρ:Loc}{H:Hp}:∀{ds:List D} {vs:List V} {ns:List Int},AtAll K ρ H ds vs->asInts ds=some ns->vs=ns.map V.int
 | _,_,_,.nil,e=>by cases e;rfl
 | _,_,_,.cons (d:=d) a b,e=>by
  cases d<;>try (cases e;done)
  rw[asInts] at e;obtain⟨ms,e1,rfl⟩:=xcs.mp e;cases a;rw[zef b e1]
  rfl
noncomputable def oLtT (x y:D) (st:Store):Res D:=match x,y with
 | .int i,.int j=>.ok (.bl (decide (i < j))) st
 | .tup a,.tup b=>match asInts a,asInts b with
  | some ns,some ms=>.ok (.bl (HT.lexLt ns ms)) st
  | _,_=>.stuck
 | _,_=>.stuck
noncomputable abbrev rLtA (K:Fg):R2:=fun x y H Q=>rI0 (fun i j=>.bl (decide (i < j))) x y H Q\/rLtT K x y H Q
theorem zou {X:Cx}(hu:X.A.units < cLine):OpR X (compareOp .Lt) (rLtA X.K):=zbkt.or (zbgs hu)
theorem zpb {K:Fg}:OpD K oLtT (rLtA K):=fun ρ H st x y u v z st' Q rp a b e q=>by
 unfold oLtT at e;split at e
 ·cases a;cases b;cases e
  exact .inl ⟨_,_,rfl,rfl,q _ _ _ (.refl _ _) rp (.bl _)⟩
 ·split at e
  ·rename_i h1 h2;cases e;cases a with
   | tup g1 g2 g3 =>
    cases b with
    | tup k1 k2 k3 =>
     have e1:=zef g3 h1;have e2:=zef k3 h2;subst e1 e2;exact .inr ⟨_,_,_,_,rfl,rfl,SqT.of g1,SqT.of k1,q _ _ _ (.refl _ _) rp (.bl _)⟩
  ·cases e
 ·cases e
noncomputable def seqOf (st:Store):D->Option (List D)
 | .tup xs=>some xs
 | .scr xs=>some xs
 | d=>asL st d
theorem zlr {K:Fg}{ρ:Loc}{st:Store}{H:Hp}(rp:Rep K ρ st H){d:D}{u:V}{xs:List D}(a:At K ρ H d u)(e:seqOf st d=some xs) :
  ∃p vs,u=.ref p/\(SqL K H p vs\/SqT K H p vs)/\AtAll K ρ H xs vs:=by
 unfold seqOf at e;split at e
 ·cases e;cases a with
  | tup h1 h2 h3=>exact⟨_,_,rfl,.inr (SqT.of h1),h3⟩
 ·cases e;cases a with
  | scr h1 h3=>exact⟨_,_,rfl,.inl h1.sq,h3⟩
 ·obtain⟨p,vs,rfl,h1,h2⟩:=zgl rp a e;exact⟨p,vs,rfl,.inl (SqL.of h1),h2⟩
theorem AtAll.atI {K:Fg}{ρ:Loc}{H:Hp}{ds:List D}{vs:List V}{i:Int}{d:D}(h:AtAll K ρ H ds vs)(e:L2.atI ds i=some d):∃v,L2.atI vs i=some v/\At K ρ H d v:=by
 unfold L2.atI at e ⊢;rw[h.length];cases hi:ixN ds.length i with
 | none=>rw[hi] at e;cases e
 | some j =>
  rw[hi] at e;obtain⟨v,e1,e2⟩:=h.get (i:=j) e;exact⟨v,e1,e2⟩
noncomputable def oIx (x y:D) (st:Store):Res D:=match seqOf st x,y with
 | some xs,.int i=>match L2.atI xs i with
  | some v=>.ok v st
  | none=>.stuck
 | _,_=>.stuck
theorem zbkx {K:Fg}:OpD K oIx (rIx K):=fun ρ H st x y u v z st' Q rp a b e q=>by
 unfold oIx at e;split at e
 ·rename_i h1;split at e
  ·rename_i w hw;cases e;cases b;obtain⟨p,vs,rfl,h2,h3⟩:=zlr rp a h1;obtain⟨w',e2,a2⟩:=h3.atI hw;rcases h2 with h2 | h2
   ·exact .inl ⟨_,_,_,_,rfl,rfl,h2,e2,q _ _ _ (.refl _ _) rp a2⟩
   ·exact .inr (.inl ⟨_,_,_,_,rfl,rfl,h2,e2,q _ _ _ (.refl _ _) rp a2⟩)
  ·cases e
 ·cases e
noncomputable def cutD (xs:List D) (lo hi:Option Int):List D:=(xs.drop (HT.sIx xs.length 0 lo)).take (HT.sIx xs.length xs.length hi - HT.sIx xs.length 0 lo)
theorem AtAll.cut {K:Fg}{ρ:Loc}{H:Hp}{ds:List D}{vs:List V}(h:AtAll K ρ H ds vs)(lo hi:Option Int):AtAll K ρ H (cutD ds lo hi) (cutV vs lo hi):=by
 unfold cutD cutV;rw[h.length];exact(h.drop _).take _
noncomputable def pNone:DS->Store->Res (Option Int):=fun _ st=>.ok none st
noncomputable def pSome (f:SE):DS->Store->Res (Option Int):=fun σ st=>(f σ st).bind fun v st1=>match v with
 | .int i=>.ok (some i) st1
 | _=>.stuck
noncomputable def eSl (f:SE) (lo hi:DS->Store->Res (Option Int)):SE:=fun σ st=>(f σ st).bind fun x st1=>(lo σ st1).bind fun l st2=>(hi σ st2).bind fun h st3=>match x with
 | .tup xs=>.ok (.tup (cutD xs l h)) st3
 | x=>match asL st3 x with
  | some xs=>.ok (.lst (cutD xs l h)) st3
  | none=>.stuck
noncomputable def tDO (K:Fg) (f:DS->Store->Res (Option Int)):TO:=fun τ H Q=>∃ρ σ st v st',AtS K ρ H σ τ/\Rep K ρ st H/\f σ st=.ok v st'/\∀ρ' H',Ext ρ H ρ' H'->Rep K ρ' st' H'->Q v H'
noncomputable abbrev DO (X:Cx) (e:Option Expr) (f:DS->Store->Res (Option Int)):Prop:=PO X e (tDO X.K f)
section
variable {X:Cx}{a b e:Expr}{f f':SE}{pos:Pos}{lo hi:Option Expr}{l h:DS->Store->Res (Option Int)}
theorem zbjt {t t':TO}{e:Option Expr}(h:PO X e t)(k:∀σ H Q,t' σ H Q->t σ H Q):PO X e t':=fun aA s σ H Q I q=>h aA s σ H Q I (k _ _ _ q)
theorem zbdp:DO X none pNone:=zbjt zbbe fun τ H Q hq0=>by
 obtain⟨ρ,σ,st,v,st',a,rp,e,q⟩:=hq0;cases e;exact q _ _ (.refl _ _) rp
theorem zbdo (he:DE X e f):DO X (some e) (pSome f):=zbjt (zbbd he) fun τ H Q hq0=>by
 obtain⟨ρ,σ,st,v,st',a,rp,e,q⟩:=hq0;obtain⟨x,st1,e1,e⟩:=zc e;refine⟨ρ,σ,st,x,st1,a,rp,e1,fun ρ1 H1 u x1 rp1 a1=>?_⟩;cases x<;>try (cases e;done)
 cases e;cases a1;exact⟨_,rfl,q _ _ x1 rp1⟩
theorem d_ix (ha:DE X a f)(hb:DE X b f')(hs:PlainIx b):DE X (.Subscript a b pos) (eOp oIx f f'):=zfp (zbkq zbhk ha hb hs) (zbez zbkx)
theorem d_sl {p2:Pos}(he:DE X e f)(hl:DO X lo l)(hu:DO X hi h):DE X (.Subscript e (.Slice lo hi none p2) pos) (eSl f l h):=zfp (zwt (zbal.or zbam) he hl hu) fun τ H Q hq0=>by
 obtain⟨ρ,σ,st,v,st',a,rp,e,q⟩:=hq0;obtain⟨x,st1,e1,e⟩:=zc e;obtain⟨y,st2,e2,e⟩:=zc e;obtain⟨z,st3,e3,e⟩:=zc e;refine⟨ρ,σ,st,x,st1,a,rp,e1,fun ρ1 H1 u x1 rp1 a1=>?_⟩;refine⟨ρ1,σ,st1,y,st2,a.ext x1,rp1,e2,fun ρ2 H2 x2 rp2=>?_⟩;refine⟨ρ2,σ,st2,z,st3,a.ext (x1.trans x2),rp2,e3,fun ρ3 H3 x3 rp3=>?_⟩;have a3:=a1.ext (x2.trans x3);have X3:=x1.trans (x2.trans x3);split at e
 ·cases e;refine .inl ?_;cases a3 with
  | tup h1 h2 h3 =>
   refine⟨_,_,rfl,SqT.of h1,fun ec=>?_,fun p hp=>?_⟩
   ·refine q _ _ _ X3 rp3 (.tup h1 h2 ?_);have:=h3.cut y z;rw[ec] at this;exact this
   ·exact q _ _ _ (X3.trans (Ext.new hp _)) (rp3.new hp _) (.newT rp3 hp (h3.cut y z))
 ·split at e
  ·rename_i xs hx;cases e;obtain⟨p,vs,rfl,g1,g2⟩:=zgl rp3 a3 hx;exact .inr ⟨_,_,rfl,SqL.of g1,fun p hp=>q _ _ _ (X3.trans (Ext.new hp _)) (rp3.new hp _) (.newL rp3 hp (g2.cut y z))⟩
  ·cases e
end
end Dd
namespace Dd
open PySem L2
noncomputable def eCall (g:List D->Store->Res D) (f:SA):SE:=fun σ st=>(f σ st).bind fun xs st1=>g xs st1
noncomputable def CaD (K:Fg) (g:List D->Store->Res D) (r:List V->Hp->VK->Prop):Prop :=
 ∀ρ H st xs us z st' (Q:VK),Rep K ρ st H->AtAll K ρ H xs us->g xs st=.ok z st'->(∀ρ' H' w,Ext ρ H ρ' H'->Rep K ρ' st' H'->At K ρ' H' z w->Q w H')->r us H Q
theorem zbke {K:Fg}{g:List D->Store->Res D}{r:List V->Hp->VK->Prop}(hr:CaD K g r){f:SA}:∀τ H Q,tD K (eCall g f) τ H Q->tCB r (tDA K f) τ H Q:=fun τ H Q hq0=>by
 obtain⟨ρ,σ,st,v,st',a,rp,e,q⟩:=hq0;obtain⟨x,st1,e1,e⟩:=zc e;exact⟨ρ,σ,st,x,st1,a,rp,e1,fun ρ1 H1 u x1 rp1 a1=>hr ρ1 H1 st1 x u v st' Q rp1 a1 e fun ρ' H' w x2=>q ρ' H' w (x1.trans x2)⟩
section
variable {X:Cx}{x:Str}{p pos:Pos}{e:Expr}{es:List Expr}{f:SA}{id T:String}{r:List V->Hp->VK->Prop}{g:List D->Store->Res D}
theorem zbef (hc:CallR X (.builtin id) r)(hr:CaD X.K g r)(hg:Gl X x)(hm:X.mg x=none)(hv:bootBuiltins x=some (.builtin id))(ha:DA X (e::es) f)(hn:x≠"__name__":=by decide)(hdb:(x==("__debug__" : Str))=false:=by decide)
 (he:starEach (e::es) X.env=(false,eval e X.env)::starEach es X.env:=by rfl)(hpl:(backTo pos (starEach es X.env)).any (·.1)=false:=by rfl):DE X (.Call (.Name x p) (e::es) [] pos) (eCall g f):=zfp (zxa hc hg hm hv ha hn hdb he hpl) (zbke hr)
theorem zyx (hc:CallR X (.type T) r)(hr:CaD X.K g r)(hg:Gl X x)(hm:X.mg x=none)(hv:bootBuiltins x=some (.type T))(ha:DA X (e::es) f)(hn:x≠"__name__":=by decide)(hdb:(x==("__debug__" : Str))=false:=by decide)
 (he:starEach (e::es) X.env=(false,eval e X.env)::starEach es X.env:=by rfl)(hpl:(backTo pos (starEach es X.env)).any (·.1)=false:=by rfl):DE X (.Call (.Name x p) (e::es) [] pos) (eCall g f):=zfp (zta hc hg hm hv ha hn hdb he hpl) (zbke hr)
end
theorem AtAll.one {K:Fg}{ρ:Loc}{H:Hp}{d:D}{us:List V}(h:AtAll K ρ H [d] us):∃u,us=[u]/\At K ρ H d u:=by
 cases h with
 | cons a b=>cases b;exact⟨_,rfl,a⟩
theorem AtAll.two {K:Fg}{ρ:Loc}{H:Hp}{d e:D}{us:List V}(h:AtAll K ρ H [d,e] us):∃u v,us=[u,v]/\At K ρ H d u/\At K ρ H e v:=by
 cases h with
 | cons a b =>
  obtain⟨v,rfl,c⟩:=b.one;exact⟨_,_,rfl,a,c⟩
noncomputable def bLen:List D->Store->Res D:=fun xs st=>match xs with
 | [x]=>match seqOf st x with
  | some ys=>.ok (.int ys.length) st
  | none=>.stuck
 | _=>.stuck
theorem zmt {K:Fg}:CaD K bLen (fun xs H Q=>∃p ys,xs=[.ref p]/\(SqL K H p ys\/SqT K H p ys)/\Q (.int ys.length) H):=fun ρ H st xs us z st' Q rp aa e q=>by
 unfold bLen at e;split at e
 ·split at e
  ·rename_i h;cases e;obtain⟨u,rfl,a⟩:=aa.one;obtain⟨p,vs,rfl,h1,h2⟩:=zlr rp a h;refine⟨p,vs,rfl,h1,?_⟩;rw[h2.length];exact q _ _ _ (.refl _ _) rp (.int _)
  ·cases e
 ·cases e
noncomputable def bAbs:List D->Store->Res D:=fun xs st=>match xs with
 | [.int i]=>.ok (.int (if i < 0 then -i else i)) st
 | _=>.stuck
theorem zbji {K:Fg}:CaD K bAbs (fun xs H Q=>∃i,xs=[.int i]/\Q (.int (if i < 0 then -i else i)) H):=fun ρ H st xs us z st' Q rp aa e q=>by
 unfold bAbs at e;split at e
 ·cases e;obtain⟨u,rfl,a⟩:=aa.one;cases a;exact⟨_,rfl,q _ _ _ (.refl _ _) rp (.int _)⟩
 ·cases e
noncomputable def b2I (g:Int->Int->Int):List D->Store->Res D:=fun xs st=>match xs with
 | [.int i,.int j]=>.ok (.int (g i j)) st
 | _=>.stuck
theorem zbjj {K:Fg}{g:Int->Int->Int}:CaD K (b2I g) (fun xs H Q=>∃i j,xs=[.int i,.int j]/\Q (.int (g i j)) H):=fun ρ H st xs us z st' Q rp aa e q=>by
 unfold b2I at e;split at e
 ·cases e;obtain⟨u,v,rfl,a,b⟩:=aa.two;cases a;cases b;exact⟨_,_,rfl,q _ _ _ (.refl _ _) rp (.int _)⟩
 ·cases e
noncomputable abbrev bMin2:=b2I fun i j=>if j < i then j else i
noncomputable def bSum:List D->Store->Res D:=fun xs st=>match xs with
 | [x]=>match (seqOf st x).bind asInts with
  | some ns=>.ok (.int ns.sum) st
  | none=>.stuck
 | _=>.stuck
theorem zbjc {K:Fg}:CaD K bSum (rSum K):=fun ρ H st xs us z st' Q rp aa e q=>by
 unfold bSum at e;split at e
 ·split at e
  ·rename_i ns h;cases e;obtain⟨ys,h0,h⟩:=xey.mp h;obtain⟨u,rfl,a⟩:=aa.one;obtain⟨p,vs,rfl,h1,h2⟩:=zlr rp a h0;have e:=zef h2 h;subst e;exact⟨p,ns,rfl,h1,q _ _ _ (.refl _ _) rp (.int _)⟩
  ·cases e
 ·cases e
noncomputable def asBools:List D->Option (List Bool)
 | []=>some []
 | .bl i::r=>(asBools r).map (i::·)
 | _::_=>none
theorem zlj {K:Fg}{ρ:Loc}{H:Hp}:∀{ds:List D} {vs:List V} {ns:List Bool},AtAll K ρ H ds vs->asBools ds=some ns->vs=ns.map V.bl
 | _,_,_,.nil,e=>by cases e;rfl
 | _,_,_,.cons (d:=d) a b,e=>by
  cases d<;>try (cases e;done)
  rw[asBools] at e;obtain⟨ms,e1,rfl⟩:=xcs.mp e;cases a;rw[zlj b e1]
  rfl
noncomputable def bAny (al:Bool):List D->Store->Res D:=fun xs st=>match xs with
 | [x]=>match (asL st x).bind asBools with
  | some bs=>.ok (.bl (if al then bs.all id else bs.any id)) st
  | none=>.stuck
 | _=>.stuck
theorem zber {K:Fg}{al:Bool}:CaD K (bAny al) (rAny K al):=fun ρ H st xs us z st' Q rp aa e q=>by
 unfold bAny at e;split at e
 ·split at e
  ·rename_i ns h;cases e;obtain⟨ys,h0,h⟩:=xey.mp h;obtain⟨u,rfl,a⟩:=aa.one;obtain⟨p,vs,rfl,h1,h2⟩:=zgl rp a h0;have e:=zlj h2 h;subst e;exact⟨p,ns,rfl,SqL.of h1,q _ _ _ (.refl _ _) rp (.bl _)⟩
  ·cases e
 ·cases e
noncomputable def tyName (st:Store):D->Option String
 | .non=>some "NoneType"
 | .bl _=>some "bool"
 | .int _=>some "int"
 | .str _=>some "str"
 | .tup _=>some "tuple"
 | .lst _=>some "list"
 | .ref n=>match st[n]? with
  | some (.lst _)=>some "list"
  | some (.dT _)=>some "dict"
  | _=>none
 | _=>none
noncomputable def isTy (t T:String):Bool:=t==T||(t=="bool"&&T=="int")
noncomputable def bIsinst:List D->Store->Res D:=fun xs st=>match xs with
 | [x,.ty T]=>match tyName st x with
  | some t=>if["int", "bool", "str", "tuple", "list", "dict"].contains T=true then .ok (.bl (isTy t T)) st else .stuck
  | none=>.stuck
 | _=>.stuck
theorem zsi {K:Fg}{ρ:Loc}{st:Store}{H:Hp}(rp:Rep K ρ st H){d:D}{u:V}{t:String}(a:At K ρ H d u)(e:tyName st d=some t):TyOf K H u (.type t)/\t∈["NoneType", "bool", "int", "str", "tuple", "list", "dict"]:=by
 cases d<;>try (cases e;done)
 ·cases e;cases a;exact⟨.non,by simp⟩
 ·cases e;cases a;exact⟨.bl _,by simp⟩
 ·cases e;cases a;exact⟨.int _,by simp⟩
 ·cases e;cases a;exact⟨.str _,by simp⟩
 ·unfold tyName at e;dsimp only at e;split at e
  ·rename_i h;cases e;obtain⟨p,rfl,hp,vs,q1,q2⟩:=zdr rp a h (by intro z;cases z);exact⟨.lst q1,by simp⟩
  ·rename_i h;cases e;obtain⟨p,rfl,hp,vs,q1,q2⟩:=zdr rp a h (by intro z;cases z);exact⟨.dT q1,by simp⟩
  ·cases e
 ·cases e;cases a with
  | tup h1 h2 h3=>exact⟨.tup h1,by simp⟩
 ·cases e;cases a with
  | lst h1 h2 h3=>exact⟨.lst h1,by simp⟩
theorem zbhd {K:Fg}{t T:String}(ht:t∈["NoneType", "bool", "int", "str", "tuple", "list", "dict"])(hT:T∈["int", "bool", "str", "tuple", "list", "dict"]):W.kitOne K (.type t) (.type T)=some (isTy t T):=by
 simp only[xbr,xkm,or_false] at ht hT;rcases ht with rfl | rfl | rfl | rfl | rfl | rfl | rfl<;>rcases hT with rfl | rfl | rfl | rfl | rfl | rfl<;>rfl
theorem zdn {K:Fg}:CaD K bIsinst (fun xs H Q=>∃x T t b,xs=[x,.ty T]/\TyOf K H x t/\W.kitOne K t (.type T)=some b/\Q (.bl b) H):=fun ρ H st xs us z st' Q rp aa e q=>by
 unfold bIsinst at e;split at e
 ·split at e
  ·rename_i h;split at e
   ·rename_i hT;cases e;obtain⟨u,v,rfl,a,b⟩:=aa.two;cases b;obtain⟨h1,h2⟩:=zsi rp a h;exact⟨_,_,_,_,rfl,h1,zbhd h2 (by simpa using hT),q _ _ _ (.refl _ _) rp (.bl _)⟩
   ·cases e
  ·cases e
 ·cases e
noncomputable def bTuple:List D->Store->Res D:=fun xs st=>match xs with
 | [.tup ys]=>.ok (.tup ys) st
 | [x]=>match asL st x with
  | some ys=>.ok (.tup ys) st
  | none=>.stuck
 | _=>.stuck
theorem zmq {K:Fg}:CaD K bTuple (fun xs H Q=>∃p ys,xs=[.ref p]/\((SqL K H p ys/\∀l,H l=none->Q (.ref l) (upd H l (.tup ys)))\/(SqT K H p ys/\Q (.ref p) H))):=fun ρ H st xs us z st' Q rp aa e q=>by
 unfold bTuple at e;split at e
 ·cases e;obtain⟨u,rfl,a⟩:=aa.one;cases a with
  | tup h1 h2 h3=>exact⟨_,_,rfl,.inr ⟨SqT.of h1,q _ _ _ (.refl _ _) rp (.tup h1 h2 h3)⟩⟩
 ·split at e
  ·rename_i h;cases e;obtain⟨u,rfl,a⟩:=aa.one;obtain⟨p,vs,rfl,h1,h2⟩:=zgl rp a h;exact⟨_,_,rfl,.inl ⟨SqL.of h1,fun l hl=>q _ _ _ (Ext.new hl _) (rp.new hl _) (.newT rp hl h2)⟩⟩
  ·cases e
 ·cases e
noncomputable def bList:List D->Store->Res D:=fun xs st=>match xs with
 | [x]=>match seqOf st x with
  | some ys=>.ok (.lst ys) st
  | none=>.stuck
 | _=>.stuck
noncomputable abbrev rowD (ns:List Int):D:=.tup (ns.map .int)
noncomputable abbrev rowsD (l:List (List Int)):List D:=l.map rowD
noncomputable def insR (a:List Int):List (List Int)->List (List Int)
 | []=>[a]
 | b::r=>if HT.lexLt b a=true then b::insR a r else a::b::r
noncomputable def sortR:List (List Int)->List (List Int)
 | []=>[]
 | a::r=>insR a (sortR r)
noncomputable abbrev UpR (l:List (List Int)):Prop:=l.Pairwise fun a b=>HT.lexLt b a=false
theorem zkc (a:List Int):∀l,(insR a l).Perm (a::l)
 | []=>.refl _
 | b::r=>by
  unfold insR;split
  ·exact(List.Perm.cons b (zkc a r)).trans (.swap a b r)
  ·exact .refl _
theorem zn:∀l,(sortR l).Perm l
 | []=>.refl _
 | a::r=>(zkc a _).trans (.cons a (zn r))
theorem zmh {a b c:List Int}(h1:HT.lexLt b a=false)(h2:HT.lexLt c b=false):HT.lexLt c a=false:=by
 cases h:HT.lexLt c a with
 | false=>rfl
 | true =>
  rcases Srt.znr a b with z | z | z
  ·have:=Srt.zgn h z;rw[h2] at this;cases this
  ·subst z;rw[h2] at h;cases h
  ·rw[h1] at z;cases z
theorem zvk (a:List Int):∀l,UpR l->UpR (insR a l)
 | [],_=>xio _ _
 | b::r,h=>by
  obtain⟨h1,h2⟩:=xgz.mp h;unfold insR;split
  ·rename_i c;refine xgz.mpr ⟨fun x hx=>?_,zvk a r h2⟩;rcases xbr.mp ((zkc a r).mem_iff.mp hx) with rfl | hx
   ·exact Srt.ztn c
   ·exact h1 x hx
  ·rename_i c;have c':HT.lexLt b a=false:=by simpa using c
   refine xgz.mpr ⟨fun x hx=>?_,h⟩;rcases xbr.mp hx with rfl | hx
   ·exact c'
   ·exact zmh c' (h1 x hx)
theorem zlo:∀l,UpR (sortR l)
 | []=>.nil
 | a::r=>zvk a _ (zlo r)
theorem zne:∀{l m:List (List Int)},l.Perm m->UpR l->UpR m->l=m
 | [],m,p,_,_=>by rw[List.nil_perm.mp p]
 | a::l,[],p,_,_=>by cases List.perm_nil.mp p
 | a::l,b::m,p,h1,h2=>by
  obtain⟨p1,p2⟩:=xgz.mp h1;obtain⟨q1,q2⟩:=xgz.mp h2;have e:a=b:=by
   rcases xbr.mp (p.mem_iff.mp xcn) with z | z
   ·exact z
   ·rcases xbr.mp (p.mem_iff.mpr (xcn (a:=b) (l:=m))) with y | y
    ·exact y.symm
    ·have e1:=q1 a z;have e2:=p1 b y;rcases Srt.znr a b with w | w | w
     ·rw[e1] at w;cases w
     ·exact w
     ·rw[e2] at w;cases w
  subst e;rw[zne (List.Perm.cons_inv p) p2 q2]
theorem zlp {l m:List (List Int)}(p:m.Perm l)(h:UpR m):m=sortR l:=zne (p.trans (zn l).symm) h (zlo l)
theorem zet (l:List (List Int)):(sortR l).length=l.length:=(zn l).length_eq
noncomputable def asRows:List D->Option (List (List Int))
 | []=>some []
 | .tup ds::r=>(asInts ds).bind fun ns=>(asRows r).map (ns::·)
 | _::_=>none
theorem zop {K:Fg}{ρ:Loc}{H:Hp}:∀{ds:List D} {vs:List V} {l:List (List Int)},AtAll K ρ H ds vs->asRows ds=some l ->
  ∃ps:List (Addr×List Int),vs=ps.map (fun p=>V.ref p.1)/\ps.map (·.2)=l/\∀p∈ps,H p.1=some (.tup (p.2.map V.int))/\Out ρ p.1
 | _,_,_,.nil,e=>by cases e;exact⟨[],rfl,rfl,fun _ h=>nomatch h⟩
 | _,_,_,.cons (d:=d) a b,e=>by
  cases d<;>try (cases e;done)
  rw[asRows] at e;obtain⟨ns,e1,e⟩:=xey.mp e;obtain⟨l,e2,rfl⟩:=xcs.mp e;obtain⟨ps,h1,h2,h3⟩:=zop b e2;cases a with
  | tup g1 g2 g3 =>
   rename_i ad ws;have ew:=zef g3 e1;subst ew;refine⟨(ad,ns)::ps,by rw[h1];rfl,by rw[← h2];rfl,fun p hp=>?_⟩;rcases xbr.mp hp with rfl | hp
   ·exact⟨g1,g2⟩
   ·exact h3 p hp
theorem zkb {K:Fg}{ρ:Loc}{H:Hp}:∀ns:List Int,AtAll K ρ H (ns.map .int) (ns.map V.int)
 | []=>.nil
 | n::ns=>.cons (.int n) (zkb ns)
theorem zlw {K:Fg}{ρ:Loc}{H:Hp}:∀ps:List (Addr×List Int),(∀p∈ps,H p.1=some (.tup (p.2.map V.int))/\Out ρ p.1)->AtAll K ρ H (rowsD (ps.map (·.2))) (ps.map fun p=>V.ref p.1)
 | [],_=>.nil
 | p::ps,h=>.cons (.tup (h p xcn).1 (h p xcn).2 (zkb _)) (zlw ps fun q hq=>h q (xbm _ hq))
theorem zno {K:Fg}{ρ:Loc}{st:Store}{H:Hp}(r:Rep K ρ st H){p:Addr}{vs:List V}(hp:H p=some (.tup vs)):Out ρ p:=by
 refine⟨fun z=>?_,fun z=>?_⟩
 ·obtain⟨i,hi,e⟩:=xdx z;obtain⟨x,_,q⟩:=r.has (n:=i) (a:=p) (by rw[xbe hi,e]);cases x with
  | lst xs=>obtain⟨_,e,_⟩:=q;rw[hp] at e;cases e
  | dT kvs=>obtain⟨_,e,_⟩:=q;rw[hp] at e;cases e
  | fT kvs=>obtain⟨_,_,e,_⟩:=q;rw[hp] at e;cases e
  | dI kvs=>obtain⟨_,e,_⟩:=q;rw[hp] at e;cases e
  | dead=>exact q
  | tab=>obtain⟨_,_,e,_⟩:=q;rw[hp] at e;cases e
 ·obtain⟨⟨u,hu⟩,_⟩:=r.gh p z;rw[hp] at hu;cases hu
noncomputable def valD (kvs:List (List Int×D)) (k:List Int):Option D:=(kvs.find? fun kv=>decide (kv.1=k)).map (·.2)
noncomputable def putD (kvs:List (List Int×D)) (k:List Int) (v:D):List (List Int×D) :=
 if(kvs.any fun kv=>decide (kv.1=k))=true then kvs.map (fun kv=>if kv.1=k then(kv.1,v) else kv) else kvs++[(k,v)]
noncomputable def dropD (kvs:List (List Int×D)) (k:List Int):List (List Int×D):=kvs.filter fun kv=>decide (kv.1≠k)
theorem znv {a b:List Int}:a.map (Sum.inl:Int->Key)=b.map Sum.inl↔a=b:=by
 constructor
 ·intro h;exact(List.map_inj_right (f:=(Sum.inl:Int->Key)) fun x y e=>Sum.inl.inj e).mp h
 ·rintro rfl;rfl
section
variable {K:Fg}{ρ:Loc}{H:Hp}{kvs:List (List Int×D)}{vs:List (List Key×V)}
theorem KvAt.val (h:KvAt K ρ H kvs vs)(k:List Int):match valD kvs k with
  | some d=>∃v,valV vs (k.map Sum.inl)=some v/\At K ρ H d v
  | none=>valV vs (k.map Sum.inl)=none:=by
 induction h with
 | nil=>rfl
 | @cons p q ps qs h t ih =>
  obtain⟨h1,h2⟩:=h;by_cases e:p.1=k
  ·have e1:valD (p::ps) k=some p.2:=by simp[valD,xeb,e]
   rw[e1];exact⟨q.2,zgu (by rw[h1,e]),h2⟩
  ·have e1:valD (p::ps) k=valD ps k:=by simp[valD,xeb,e]
   have e2:valV (q::qs) (k.map Sum.inl)=valV qs (k.map Sum.inl):=zgv (by rw[h1,znv];exact e);rw[e1,e2];exact ih
theorem KvAt.keys (h:KvAt K ρ H kvs vs):vs.map (·.1)=(kvs.map (·.1)).map fun ns=>ns.map Sum.inl:=by
 induction h with
 | nil=>rfl
 | @cons p q ps qs h t ih=>rw[xbq,xbq,xbq,ih,h.1]
theorem KvAt.put (h:KvAt K ρ H kvs vs)(k:List Int){d:D}{v:V}(a:At K ρ H d v):KvAt K ρ H (putD kvs k d) (putK vs (k.map Sum.inl) v):=by
 have any:∀{kvs:List (List Int×D)} {vs:List (List Key×V)},KvAt K ρ H kvs vs->(kvs.any fun kv=>decide (kv.1=k))=(vs.any fun kv=>decide (kv.1=k.map Sum.inl)):=fun h=>by
  induction h with
  | nil=>rfl
  | @cons p q ps qs h t ih =>
   rw[xgr,xgr,ih,h.1]
   congr 1
   simp only[znv]
 unfold putD putK;rw[any h];split
 ·rename_i hh;clear hh any
  induction h with
  | nil=>exact .nil
  | @cons p q ps qs h t ih =>
   refine .cons ?_ ih;obtain⟨h1,h2⟩:=h;dsimp only;by_cases e:p.1=k
   ·rw[if_pos e,if_pos (by rw[h1,e])];exact⟨h1,a⟩
   ·rw[if_neg e,if_neg (by rw[h1,znv];exact e)];exact⟨h1,h2⟩
 ·have app:∀{kvs:List (List Int×D)} {vs:List (List Key×V)},KvAt K ρ H kvs vs->KvAt K ρ H (kvs++[(k,d)]) (vs++[(k.map Sum.inl,v)]):=fun h=>by
   induction h with
   | nil=>exact .cons ⟨rfl,a⟩ .nil
   | cons h t ih=>exact .cons h ih
  exact app h
theorem KvAt.drop (h:KvAt K ρ H kvs vs)(k:List Int):KvAt K ρ H (dropD kvs k) (dropK vs (k.map Sum.inl)):=by
 unfold dropD dropK
 induction h with
 | nil=>exact .nil
 | @cons p q ps qs h t ih =>
  by_cases e:p.1=k
  ·rw[xdc (by simp[e]),xdc (by simp[h.1,e])];exact ih
  ·rw[xdd (by simp[e]),xdd (by simp[h.1,znv,e])];exact .cons h ih
theorem KvAt.length (h:KvAt K ρ H kvs vs):kvs.length=vs.length:=xgq h
end
noncomputable def pairsOf (st:Store):D->Option (List (List Int×D))
 | .ref n=>match st[n]? with
  | some (.dT kvs)=>some kvs
  | some (.fT kvs)=>some kvs
  | _=>none
 | _=>none
theorem zlz {K:Fg}{ρ:Loc}{st:Store}{H:Hp}(rp:Rep K ρ st H){d:D}{u:V}{kvs:List (List Int×D)}(a:At K ρ H d u)(e:pairsOf st d=some kvs):∃p vs,u=.ref p/\Rd H p (.dT vs)/\KvAt K ρ H kvs vs:=by
 unfold pairsOf at e;split at e
 ·split at e
  ·rename_i h;cases e;obtain⟨p,rfl,hp,vs,q1,q2⟩:=zdr rp a h (by intro z;cases z);exact⟨p,vs,rfl,.inl q1,q2⟩
  ·rename_i h;cases e;obtain⟨p,rfl,hp,vs,ob,q1,q2⟩:=zdr rp a h (by intro z;cases z);exact⟨p,vs,rfl,.inr ⟨ob,q1⟩,q2⟩
  ·cases e
 ·cases e
noncomputable def keyOf:D->Option (List Int)
 | .tup ds=>asInts ds
 | _=>none
theorem zxn {K:Fg}{ρ:Loc}{H:Hp}{d:D}{u:V}{k:List Int}(a:At K ρ H d u)(e:keyOf d=some k):∃p,u=.ref p/\H p=some (.tup ((k.map (Sum.inl:Int->Key)).map kV)):=by
 unfold keyOf at e;split at e
 ·cases a with
  | tup h1 h2 h3 =>
   have:=zef h3 e;subst this;exact⟨_,rfl,by rw[zvi];exact h1⟩
 ·cases e
theorem zrd {K:Fg}{ρ:Loc}{st:Store}{H:Hp}(rp:Rep K ρ st H){d y:D}{u w:V}{kvs:List (List Int×D)}{k:List Int}(a:At K ρ H d u)(b:At K ρ H y w)(e:pairsOf st d=some kvs)(e2:keyOf y=some k) :
  ∃p o,u=.ref p/\DGet H p w o/\match valD kvs k with
   | some z=>∃v,o=some v/\At K ρ H z v
   | none=>o=none:=by
 obtain⟨p,vs,rfl,h1,h2⟩:=zlz rp a e;obtain⟨q,rfl,h3⟩:=zxn b e2;refine⟨p,valV vs (k.map Sum.inl),rfl,.inr ⟨vs,_,q,h1,rfl,h3,rfl⟩,?_⟩;have:=h2.val k;cases hv:valD kvs k with
 | none=>rw[hv] at this;exact this
 | some z=>rw[hv] at this;exact this
noncomputable def oDIn (neg:Bool) (y x:D) (st:Store):Res D:=match keyOf y,pairsOf st x with
 | some k,some kvs=>.ok (.bl (if neg then !(valD kvs k).isSome else(valD kvs k).isSome)) st
 | _,_=>.stuck
noncomputable def oDGet (x y:D) (st:Store):Res D:=match pairsOf st x,keyOf y with
 | some kvs,some k=>match valD kvs k with
  | some v=>.ok v st
  | none=>.stuck
 | _,_=>.stuck
noncomputable def eDGet2 (f g h:SE):SE:=fun σ st=>(f σ st).bind fun x st1=>match pairsOf st1 x with
 | some _=>(g σ st1).bind fun y st2=>(h σ st2).bind fun z st3=>match pairsOf st3 x,keyOf y with
  | some kvs,some k=>.ok ((valD kvs k).getD z) st3
  | _,_=>.stuck
 | none=>.stuck
noncomputable def eDPop (f g:SE):SE:=fun σ st=>(f σ st).bind fun x st1=>match pairsOf st1 x with
 | some _=>(g σ st1).bind fun y st2=>match x,keyOf y with
  | .ref n,some k=>match st2[n]? with
   | some (.dT kvs)=>match valD kvs k with
    | some v=>.ok v (st2.set n (.dT (dropD kvs k)))
    | none=>.stuck
   | _=>.stuck
  | _,_=>.stuck
 | none=>.stuck
noncomputable def sDPut (f g h:SE):SS:=fun σ st=>(h σ st).bind fun v st1=>(f σ st1).bind fun x st2=>(g σ st2).bind fun y st3=>match x,keyOf y with
 | .ref n,some k=>match st3[n]? with
  | some (.dT kvs)=>if kvs.length < sizeLine then .ok (.nx σ) (st3.set n (.dT (putD kvs k v))) else .stuck
  | _=>.stuck
 | _,_=>.stuck
noncomputable def eDNew:SE:=fun _ st=>.ok (.ref st.length) (st++[.dT []])
section
variable {X:Cx}{a b c o i e value f':Expr}{f g h:SE}{pos pos' apos cpos:Pos}
theorem zbda {K:Fg}{ρ:Loc}{st:Store}{H:Hp}(rp:Rep K ρ st H){d:D}{u:V}{kvs:List (List Int×D)}(a:At K ρ H d u)(e:pairsOf st d=some kvs):∃p,u=.ref p/\IsD H p:=by
 obtain⟨p,vs,rfl,h1,_⟩:=zlz rp a e;exact⟨p,rfl,.inr ⟨vs,h1⟩⟩
theorem zbim:DE X (.Dict [] [] pos) eDNew:=zfp zww fun τ H Q hq0 p hp=>by
 obtain⟨ρ,σ,st,v,st',a,rp,e,q⟩:=hq0;cases e;obtain⟨E,R⟩:=rp.alloc hp (x:=.dT []) (o:=.dT []) fun E=>⟨[],zx,.nil⟩
 exact q _ _ _ E R (.last rp.len.symm)
theorem zbks (hu:X.A.units+1 < cLine)(hi:DE X i g)(ho:DE X o f):PC X .In i o (tD X.K (eOp (oDIn false) g f)):=fun aA s σ H Q I hq=>by
 refine zbgo hu hi ho aA s σ H Q I ?_;obtain⟨ρ,σ',st,v,st',a,rp,e,q⟩:=hq;obtain⟨x,st1,e1,e⟩:=zc e;obtain⟨y,st2,e2,e⟩:=zc e;refine⟨ρ,σ',st,x,st1,a,rp,e1,fun ρ1 H1 u x1 rp1 a1=>?_⟩;refine⟨ρ1,σ',st1,y,st2,a.ext x1,rp1,e2,fun ρ2 H2 w x2 rp2 a2=>?_⟩;unfold oDIn at e;split at e
 ·rename_i kk vv h1 h2;cases e;obtain⟨p,oo,rfl,g1,g2⟩:=zrd rp2 a2 (a1.ext x2) h2 h1;refine⟨p,oo,rfl,g1,?_⟩;have:oo.isSome=(valD vv kk).isSome:=by
   revert g2;split
   ·rename_i hv;rintro⟨v,rfl,_⟩;rw[hv];rfl
   ·rename_i hv;rintro rfl;rw[hv];rfl
  rw[this];exact q _ _ _ (x1.trans x2) rp2 (.bl _)
 ·cases e
theorem d_in {op:CmpOp}{t:SE}(h:PC X op a b (tD X.K t))(h1:behindInMarks op b=false:=by first | exact nobehind _ (by decide) (by decide) | rfl):DE X (.Compare a [op] [b] pos) t:=zbgm h h1
theorem zbli {op:CmpOp}{t:SE}(h:PC X op a b (tD X.K t))(h1:behindInMarks op b=false:=by first | exact nobehind _ (by decide) (by decide) | rfl):DT X (.Compare a [op] [b] pos) (eB t):=zzq (zbfx h h1) fun τ H Q hh=>eB_t _ _ _ hh
theorem zbin (hu:X.A.units+1 < cLine)(ho:DE X o f)(hi:DE X i g)(hs:NoSl i):DE X (.Subscript o i pos) (eOp oDGet f g):=zfp (zbbp hu ho hi hs) fun τ H Q hq0=>by
 obtain⟨ρ,σ,st,v,st',a,rp,e,q⟩:=hq0;obtain⟨x,st1,e1,e⟩:=zc e;obtain⟨y,st2,e2,e⟩:=zc e;refine⟨ρ,σ,st,x,st1,a,rp,e1,fun ρ1 H1 u x1 rp1 a1=>?_⟩;refine⟨ρ1,σ,st1,y,st2,a.ext x1,rp1,e2,fun ρ2 H2 w x2 rp2 a2=>?_⟩;unfold oDGet at e;split at e
 ·rename_i h1 h2;split at e
  ·rename_i z hv;cases e;obtain⟨p,oo,rfl,g1,g2⟩:=zrd rp2 (a1.ext x2) a2 h1 h2;rw[hv] at g2;obtain⟨vv,rfl,g3⟩:=g2;exact⟨p,vv,rfl,g1,q _ _ _ (x1.trans x2) rp2 g3⟩
  ·cases e
 ·cases e
theorem zbed (hu:X.A.units + 1 < cLine)(ho:DE X o f)(he:DE X e g)(hf:DE X f' h)(m:M2 X o "get" apos e f' cpos):DE X (.Call (.Attribute o "get" apos) [e, f'] [] cpos) (eDGet2 f g h):=zfp (zwy hu ho he hf m) fun τ H Q hq0=>by
 obtain⟨ρ,σ,st,v,st',a,rp,e,q⟩:=hq0;obtain⟨x,st1,e1,e⟩:=zc e;refine⟨ρ,σ,st,x,st1,a,rp,e1,fun ρ1 H1 u x1 rp1 a1=>?_⟩;split at e
 ·rename_i h0;obtain⟨p,rfl,hd⟩:=zbda rp1 a1 h0;obtain⟨y,st2,e2,e⟩:=zc e;obtain⟨z,st3,e3,e⟩:=zc e;refine⟨p,rfl,hd,?_⟩;refine⟨ρ1,σ,st1,y,st2,a.ext x1,rp1,e2,fun ρ2 H2 w x2 rp2 a2=>?_⟩;refine⟨ρ2,σ,st2,z,st3,a.ext (x1.trans x2),rp2,e3,fun ρ3 H3 t x3 rp3 a3=>?_⟩;split at e
  ·rename_i h1 h2;cases e;obtain⟨p',oo,ep,g1,g2⟩:=zrd rp3 (a1.ext (x2.trans x3)) (a2.ext x3) h1 h2;cases ep;refine⟨oo,g1,q _ _ _ (x1.trans (x2.trans x3)) rp3 ?_⟩;revert g2;split
   ·rename_i hv;rintro⟨vv,rfl,g3⟩;rw[hv];exact g3
   ·rename_i hv;rintro rfl;rw[hv];exact a3
  ·cases e
 ·cases e
theorem zbil (hu:X.A.units + 1 < cLine)(ho:DE X o f)(he:DE X e g)(m:M1 X o "pop" apos e cpos):DE X (.Call (.Attribute o "pop" apos) [e] [] cpos) (eDPop f g):=zfp (zwv hu ho he m) fun τ H Q hq0=>by
 obtain⟨ρ,σ,st,v,st',a,rp,e,q⟩:=hq0;obtain⟨x,st1,e1,e⟩:=zc e;refine⟨ρ,σ,st,x,st1,a,rp,e1,fun ρ1 H1 u x1 rp1 a1=>?_⟩;split at e
 ·rename_i h0;obtain⟨p,rfl,hd⟩:=zbda rp1 a1 h0;obtain⟨y,st2,e2,e⟩:=zc e;refine⟨p,rfl,hd,?_⟩;refine⟨ρ1,σ,st1,y,st2,a.ext x1,rp1,e2,fun ρ2 H2 w x2 rp2 a2=>?_⟩;split at e
  ·rename_i n k hk _;split at e
   ·rename_i kvs hn;split at e
    ·rename_i z hv;cases e;obtain⟨p',ep,hp,vs,g1,g2⟩:=zdr rp2 (a1.ext x2) hn (by intro z;cases z);cases ep;obtain⟨b,rfl,g3⟩:=zxn a2 hk;have g4:=g2.val k;rw[hv] at g4;obtain⟨vv,g5,g6⟩:=g4;have E:Ext ρ2 H2 ρ2 (upd H2 p (.dT (dropK vs (k.map Sum.inl)))):=Ext.wr hp (zix g1) _;exact⟨vs,_,vv,b,g1,rfl,g3,g5,q _ _ _ ((x1.trans x2).trans E) (rp2.wr hp (zix g1) ⟨_,zx,(g2.drop k).ext E⟩) (g6.ext E)⟩
    ·cases e
   ·cases e
  ·cases e
 ·cases e
theorem zbdm (hu:X.A.units+1 < cLine)(ho:DE X o f)(hi:DE X i g)(hv:DE X value h)(hs:swapsWith value (some (.Subscript o i pos')) pos.line X.env=pure false) :
  DSt X (.Assign [.Subscript o i pos'] value pos) (sDPut f g h):=zsv (zbbb hu ho hi hv hs) fun E τ H hq0=>by
 obtain⟨ρ,σ,st,fl,st',a,rp,e,q⟩:=hq0;obtain⟨v,st1,e1,e⟩:=zc e;obtain⟨x,st2,e2,e⟩:=zc e;obtain⟨y,st3,e3,e⟩:=zc e;refine⟨ρ,σ,st,v,st1,a,rp,e1,fun ρ1 H1 u x1 rp1 a1=>?_⟩;refine⟨ρ1,σ,st1,x,st2,a.ext x1,rp1,e2,fun ρ2 H2 w x2 rp2 a2=>?_⟩;refine⟨ρ2,σ,st2,y,st3,a.ext (x1.trans x2),rp2,e3,fun ρ3 H3 t x3 rp3 a3=>?_⟩;split at e
 ·rename_i n k hk _;split at e
  ·rename_i kvs hn;split at e
   ·rename_i hl;cases e;obtain⟨p,rfl,hp,vs,g1,g2⟩:=zdr rp3 (a2.ext x3) hn (by intro z;cases z);obtain⟨b,rfl,g3⟩:=zxn a3 hk;have E:Ext ρ3 H3 ρ3 (upd H3 p (.dT (putK vs (k.map Sum.inl) u))):=Ext.wr hp (zix g1) _;refine⟨p,_,rfl,DPut.t g1 g3 (by rw[← g2.length];exact hl),?_⟩;exact q _ _ _ ((x1.trans (x2.trans x3)).trans E) (rp3.wr hp (zix g1) ⟨_,zx,(g2.put k (a1.ext (x2.trans x3))).ext E⟩) (a.ext ((x1.trans (x2.trans x3)).trans E))
   ·cases e
  ·cases e
 ·cases e
end
noncomputable def bSorted:List D->Store->Res D:=fun xs st=>match xs with
 | [x]=>match (asL st x).bind asRows with
  | some l=>if l.length<=1000000 then .ok (.lst (rowsD (sortR l))) st else .stuck
  | none=>match pairsOf st x with
   | some kvs=>if kvs.length<=1000000 then .ok (.lst (rowsD (sortR (kvs.map (·.1))))) st else .stuck
   | none=>.stuck
 | _=>.stuck
theorem zgr {K:Fg}:CaD K bSorted (fun xs H Q=>rSortedAL K xs H Q\/rSortedDAL xs H Q):=fun ρ H st xs us z st' Q rp aa e q=>by
 unfold bSorted at e;split at e
 ·obtain⟨u,rfl,a⟩:=aa.one;split at e
  ·rename_i l hl;obtain⟨ys,h0,hl⟩:=xey.mp hl;split at e
   ·rename_i few;cases e;obtain⟨p,vs,rfl,h1,h2⟩:=zgl rp a h0;obtain⟨ps,rfl,rfl,h3⟩:=zop h2 hl;rw[xbd] at few;refine .inl ⟨p,ps,rfl,SqL.of h1,few,fun x hx=>SqT.of (h3 x hx).1,fun t qs ht hp hs=>?_⟩;have e2:qs.map (·.2)=sortR (ps.map (·.2)):=zlp (hp.map _) hs;refine q _ _ _ (Ext.new ht _) (rp.new ht _) (.newL rp ht ?_);rw[← e2];exact zlw qs fun x hx=>h3 x (hp.mem_iff.mp hx)
   ·cases e
  ·split at e
   ·rename_i kvs hk;split at e
    ·rename_i few;cases e;obtain⟨p,vs,rfl,h1,h2⟩:=zlz rp a hk;refine .inr ⟨p,vs,kvs.map (·.1),rfl,h1,h2.keys,by rw[xbd];exact few,fun t qs ht hp hs hq=>?_⟩;have e2:qs.map (·.2)=sortR (kvs.map (·.1)):=zlp hp hs;refine q _ _ _ (Ext.new ht _) (rp.new ht _) (.newL rp ht ?_);rw[← e2];exact zlw qs fun x hx=>⟨hq x hx,zno rp (hq x hx)⟩
    ·cases e
   ·cases e
 ·cases e
theorem zdm {X:Cx}(hc:X.calm=true)(hu:X.A.units + 64 < cLine):CallR X (.builtin "sorted") (fun xs H Q=>rSortedAL X.K xs H Q\/rSortedDAL xs H Q):=(zlh hu).or (zkm hc hu)
noncomputable def eAppend (f:SE) (g:SA):SE:=fun σ st=>(f σ st).bind fun x st1=>match x,asL st1 x with
 | .ref n,some _=>(g σ st1).bind fun ys st2=>match ys,st2[n]? with
  | [y],some (.lst xs)=>if xs.length < sizeLine then .ok .non (st2.set n (.lst (xs++[y]))) else .stuck
  | _,_=>.stuck
 | _,_=>.stuck
noncomputable def eExtend (f:SE) (g:SA):SE:=fun σ st=>(f σ st).bind fun x st1=>match x,asL st1 x with
 | .ref n,some _=>(g σ st1).bind fun ys st2=>match ys,st2[n]? with
  | [y],some (.lst xs)=>match asL st2 y with
   | some zs=>if xs.length+zs.length<=sizeLine then .ok .non (st2.set n (.lst (xs++zs))) else .stuck
   | none=>.stuck
  | _,_=>.stuck
 | _,_=>.stuck
section
variable {X:Cx}{o e i value:Expr}{es:List Expr}{f g h:SE}{ga:SA}{pos apos cpos:Pos}
theorem zyy (ho:DE X o f)(ha:DA X (e::es) ga)(hbase:attributeBase o "append" X.env (eval o X.env)=eval o X.env:=by rfl)
  (hfew:((backTo cpos (starEach (e::es) X.env)).all (fun x=>!x.1)&&(backToKw cpos (keywordEach [] X.env)).all (fun x=>x.1.isSome)
   && decide ((e::es).length+([]:List Keyword).length+(if([]:List Keyword).isEmpty then 0 else 1) < 30))=true:=by rfl)
  (hline:(apos.endLine==cpos.line)=true:=by rfl)(hs:starEach (e::es) X.env=(false,eval e X.env)::starEach es X.env:=by rfl)(hplain:(backTo cpos (starEach es X.env)).any (·.1)=false:=by rfl) :
  DE X (.Call (.Attribute o "append" apos) (e::es) [] cpos) (eAppend f ga):=zfp (zbey F.plainAttrs_list F.slot_list_append F.type_list_append znq ho ha hbase hfew hline hs hplain) fun τ H Q hq0=>by
 obtain⟨ρ,σ,st,v,st',a,rp,e,q⟩:=hq0;obtain⟨x,st1,e1,e⟩:=zc e;refine⟨ρ,σ,st,x,st1,a,rp,e1,fun ρ1 H1 u x1 rp1 a1=>?_⟩;split at e
 ·rename_i n _ hL;obtain⟨ys,st2,e2,e⟩:=zc e;obtain⟨p,vs,rfl,g1,g2⟩:=zgl rp1 a1 hL;refine⟨.inl ⟨rfl,_,SqL.of g1⟩,ρ1,σ,st1,ys,st2,a.ext x1,rp1,e2,fun ρ2 H2 ws x2 rp2 a2=>?_⟩;split at e
  ·rename_i y xs hn;split at e
   ·rename_i hl;cases e;obtain⟨w,rfl,a3⟩:=a2.one;obtain⟨p',ep,hp,vs2,k1,k2⟩:=zdr rp2 (a1.ext x2) hn (by intro z;cases z);cases ep;have E:Ext ρ2 H2 ρ2 (upd H2 p (.lst (vs2++[w]))):=Ext.wr hp (zfz k1) _;exact⟨p,vs2,w,rfl,rfl,k1,by rw[k2.length];exact hl,q _ _ _ ((x1.trans x2).trans E) (rp2.wr hp (zfz k1) ⟨_,zx,(k2.append (.cons a3 .nil)).ext E⟩) .non⟩
   ·cases e
  ·cases e
 ·cases e
theorem zyu (ho:DE X o f)(ha:DA X (e::es) ga)(hbase:attributeBase o "extend" X.env (eval o X.env)=eval o X.env:=by rfl)
  (hfew:((backTo cpos (starEach (e::es) X.env)).all (fun x=>!x.1)&&(backToKw cpos (keywordEach [] X.env)).all (fun x=>x.1.isSome)
   && decide ((e::es).length+([]:List Keyword).length+(if([]:List Keyword).isEmpty then 0 else 1) < 30))=true:=by rfl)
  (hline:(apos.endLine==cpos.line)=true:=by rfl)(hs:starEach (e::es) X.env=(false,eval e X.env)::starEach es X.env:=by rfl)(hplain:(backTo cpos (starEach es X.env)).any (·.1)=false:=by rfl) :
  DE X (.Call (.Attribute o "extend" apos) (e::es) [] cpos) (eExtend f ga):=zfp (zbey F.plainAttrs_list F.slot_list_extend F.type_list_extend zti ho ha hbase hfew hline hs hplain) fun τ H Q hq0=>by
 obtain⟨ρ,σ,st,v,st',a,rp,e,q⟩:=hq0;obtain⟨x,st1,e1,e⟩:=zc e;refine⟨ρ,σ,st,x,st1,a,rp,e1,fun ρ1 H1 u x1 rp1 a1=>?_⟩;split at e
 ·rename_i n _ hL;obtain⟨ys,st2,e2,e⟩:=zc e;obtain⟨p,vs,rfl,g1,g2⟩:=zgl rp1 a1 hL;refine⟨.inl ⟨rfl,_,SqL.of g1⟩,ρ1,σ,st1,ys,st2,a.ext x1,rp1,e2,fun ρ2 H2 ws x2 rp2 a2=>?_⟩;split at e
  ·rename_i y xs hn;split at e
   ·rename_i zs hz;split at e
    ·rename_i hl;cases e;obtain⟨w,rfl,a3⟩:=a2.one;obtain⟨p',ep,hp,vs2,k1,k2⟩:=zdr rp2 (a1.ext x2) hn (by intro z;cases z);cases ep;obtain⟨b,ws2,rfl,m1,m2⟩:=zgl rp2 a3 hz;have E:Ext ρ2 H2 ρ2 (upd H2 p (.lst (vs2++ws2))):=Ext.wr hp (zfz k1) _;exact⟨p,b,vs2,ws2,rfl,rfl,k1,m1,by rw[k2.length,m2.length];exact hl,q _ _ _ ((x1.trans x2).trans E) (rp2.wr hp (zfz k1) ⟨_,zx,(k2.append m2).ext E⟩) .non⟩
    ·cases e
   ·cases e
  ·cases e
 ·cases e
noncomputable def eFz (f:SE):SE:=fun σ st=>(f σ st).bind fun x st1=>match x with
 | .ref n=>match st1[n]? with
  | some (.lst xs)=>.ok (.lst xs) (st1.set n .dead)
  | _=>.stuck
 | _=>.stuck
theorem d_fz (ho:DE X o f):DE X o (eFz f):=zfp ho fun τ H Q hq0=>by
 obtain⟨ρ,σ,st,v,st',a,rp,e,q⟩:=hq0;obtain⟨x,st1,e1,e⟩:=zc e;refine⟨ρ,σ,st,x,st1,a,rp,e1,fun ρ1 H1 u x1 rp1 a1=>?_⟩;split at e
 ·rename_i n;split at e
  ·rename_i xs hn;cases e;obtain⟨p,rfl,hp,vs2,k1,k2⟩:=zdr rp1 a1 hn (by intro z;cases z);have hlen:=(xbc.mp hp).1;obtain⟨E,R⟩:=rp1.kill hlen;refine q _ _ _ (x1.trans E) R (.lst k1 ⟨fun z=>?_,fun z=>(rp1.gh p z).2 (xbs hp)⟩ (k2.ext E));obtain⟨i,hi,e2⟩:=xdx z;have e3:(ρ1.m.set n none)[i]?=some (some p):=by rw[xbe hi,e2]
   by_cases hin:i=n
   ·subst hin;rw[xee hlen] at e3;simp at e3
   ·rw[xbi (xel hin)] at e3;exact hin (rp1.inj i n p e3 hp)
  ·cases e
 ·cases e
end
noncomputable def sNx:SS:=fun σ st=>.ok (.nx σ) st
noncomputable def sBrk:SS:=fun σ st=>.ok (.brk σ) st
noncomputable def sCt:SS:=fun σ st=>.ok (.ct σ) st
noncomputable def sRet (f:SE):SS:=fun σ st=>(f σ st).bind fun v st1=>.ok (.ret v) st1
noncomputable def sRetN:SS:=fun _ st=>.ok (.ret .non) st
noncomputable def sDrop (f:SE):SS:=fun σ st=>(f σ st).bind fun _ st1=>.ok (.nx σ) st1
noncomputable def sSet (i:Nat) (f:SE):SS:=fun σ st=>(f σ st).bind fun v st1=>.ok (.nx (σ.set i (some v))) st1
noncomputable def sSeq (s t:SS):SS:=fun σ st=>match s σ st with
 | .ok (.nx σ1) st1=>t σ1 st1
 | r=>r
noncomputable def sIf (c:ST) (s t:SS):SS:=fun σ st=>(c σ st).bind fun b st1=>if b=true then s σ st1 else t σ st1
noncomputable def sAug (i:Nat) (g:D->D->Store->Res D) (f:SE):SS:=fun σ st=>match σ[i]? with
 | some (some x)=>(f σ st).bind fun y st1=>(g x y st1).bind fun z st2=>.ok (.nx (σ.set i (some z))) st2
 | _=>.stuck
noncomputable def sSetIx (f g h:SE):SS:=fun σ st=>(h σ st).bind fun v st1=>(f σ st1).bind fun x st2=>(g σ st2).bind fun y st3=>match x,y with
 | .ref n,.int k=>match st3[n]? with
  | some (.lst xs)=>match ixN xs.length k with
   | some j=>.ok (.nx σ) (st3.set n (.lst (xs.set j v)))
   | none=>.stuck
  | _=>.stuck
 | _,_=>.stuck
section
variable {X:Cx}{e c o i value:Expr}{sm:Stmt}{rest:List Stmt}{f g h:SE}{s t:SS}{b:ST}{pos pos':Pos}
theorem zbia:DSs X [] sNx:=zbaw zbay fun E τ H hq0=>by
 obtain⟨ρ,σ,st,fl,st',a,rp,e,q⟩:=hq0;cases e;exact q _ _ _ (.refl _ _) rp a
theorem zbhy (he:DE X e f):DSt X (.Return (some e) pos) (sRet f):=zsv (zbgb he) fun E τ H hq0=>by
 obtain⟨ρ,σ,st,fl,st',a,rp,e,q⟩:=hq0;obtain⟨x,st1,e1,e⟩:=zc e;cases e;exact⟨ρ,σ,st,x,_,a,rp,e1,fun ρ1 H1 u x1 rp1 a1=>q _ _ _ x1 rp1 a1⟩
theorem zbdl (he:DE X e f)(hs:swapsWith e none pos.line X.env=pure false:=by rfl):DSt X (.Expr e pos) (sDrop f):=zsv (zbba he hs) fun E τ H hq0=>by
 obtain⟨ρ,σ,st,fl,st',a,rp,e,q⟩:=hq0;obtain⟨x,st1,e1,e⟩:=zc e;cases e;exact⟨ρ,σ,st,x,_,a,rp,e1,fun ρ1 H1 u x1 rp1 a1=>q _ _ _ x1 rp1 (a.ext x1)⟩
theorem zbki {K:Fg}{i:Nat}{f:SE}:∀E τ H,tDS K (sSet i f) E τ H->tAsg (tD K f) (gName i) E τ H:=fun E τ H hq0=>by
 obtain⟨ρ,σ,st,fl,st',a,rp,e,q⟩:=hq0;obtain⟨x,st1,e1,e⟩:=zc e;cases e;exact⟨ρ,σ,st,x,_,a,rp,e1,fun ρ1 H1 u x1 rp1 a1=>q _ _ _ x1 rp1 ((a.ext x1).set a1 i)⟩
theorem zbhx {i:Nat}{x:Str}(hN:X.N.Nodup)(hi:X.N[i]?=some x)(hx:L2.Loc X.env.scope x)(he:DE X e f)(hs:swapsWith e (some (.Name x pos')) pos.line X.env=pure false:=by rfl)(hf:X.fn x=true\/X.env.scope.names.lookup x=some .local:=by first | exact .inl rfl | exact .inr rfl | assumption) :
 DSt X (.Assign [.Name x pos'] e pos) (sSet i f):=zsv (zbga hN hi hx he hs hf) zbki
theorem zbhz (h1:DSt X sm s):DSs X [sm] s:=zbax h1
theorem zbdn (h1:DSt X sm s)(h2:DSs X rest t):DSs X (sm::rest) (sSeq s t):=zbaw (zwm h1 h2) fun E τ H hq0=>by
 obtain⟨ρ,σ,st,fl,st',a,rp,e,q⟩:=hq0;unfold sSeq at e;split at e
 ·rename_i σ1 st1 e1;exact⟨ρ,σ,st,_,st1,a,rp,e1,fun ρ1 H1 τ1 x1 rp1 a1=>⟨ρ1,σ1,st1,fl,st',a1,rp1,e,q.ext x1⟩⟩
 ·rename_i hne;refine⟨ρ,σ,st,fl,st',a,rp,e,?_⟩;cases fl with
  | nx σ'=>exact absurd e (hne σ' st')
  | brk σ'=>exact q
  | ct σ'=>exact q
  | ret v=>exact q
theorem zblj {a' b':List Stmt}(hc:DT X c b)(ha:DSs X a' s)(hb:DSs X b' t):DSt X (.If c a' b' pos) (sIf b s t):=zsv (zbkl hc ha hb) fun E τ H hq0=>by
 obtain⟨ρ,σ,st,fl,st',a,rp,e,q⟩:=hq0;obtain⟨x,st1,e1,e⟩:=zc e;refine⟨ρ,σ,st,x,st1,a,rp,e1,fun ρ1 H1 x1 rp1=>?_⟩;cases x with
 | true=>exact iteT ⟨ρ1,σ,st1,fl,st',a.ext x1,rp1,e,q.ext x1⟩
 | false=>exact iteF ⟨ρ1,σ,st1,fl,st',a.ext x1,rp1,e,q.ext x1⟩
theorem zyf (he:DE X value h)(ho:DE X o f)(hi:DE X i g)(ha:∀v,assign (.Subscript o i pos') X.env v=(do
   let ov ← holding [v] (eval o X.env)
   let iv ← holding [v,ov] (eval i X.env)
   standAt pos'
   holding [v,ov,iv] (setItem ov iv v)
   release [v,ov,iv] []):=by intro _;rfl)
  (hs:swapsWithSole [.Subscript o i pos'] value pos.line X.env=pure false:=by rfl)(hw:swappedStores [.Subscript o i pos'] value X.env=pure none:=by rfl)
  (h1:(assignEach [.Subscript o i pos'] X.env).map (·.2)=[assign (.Subscript o i pos') X.env]:=by rfl):DSt X (.Assign [.Subscript o i pos'] value pos) (sSetIx f g h) :=
 zsv (zbgd he (zbgg ho hi zwd ha) hs hw h1) fun E τ H hq0=>by
 obtain⟨ρ,σ,st,fl,st',a,rp,e,q⟩:=hq0;obtain⟨v,st1,e1,e⟩:=zc e;obtain⟨x,st2,e2,e⟩:=zc e;obtain⟨y,st3,e3,e⟩:=zc e;refine⟨ρ,σ,st,v,st1,a,rp,e1,fun ρ1 H1 u x1 rp1 a1=>?_⟩;refine⟨ρ1,σ,st1,x,st2,a.ext x1,rp1,e2,fun ρ2 H2 w x2 rp2 a2=>?_⟩;refine⟨ρ2,σ,st2,y,st3,a.ext (x1.trans x2),rp2,e3,fun ρ3 H3 t x3 rp3 a3=>?_⟩;split at e
 ·rename_i n k _;split at e
  ·rename_i xs hn;split at e
   ·rename_i j hj;cases e;cases a3;obtain⟨p,rfl,hp,vs,g1,g2⟩:=zdr rp3 (a2.ext x3) hn (by intro z;cases z);have E:Ext ρ3 H3 ρ3 (upd H3 p (.lst (vs.set j u))):=Ext.wr hp (zfz g1) _;refine⟨p,vs,k,j,rfl,rfl,g1,by rw[g2.length];exact hj,?_⟩;exact q _ _ _ ((x1.trans (x2.trans x3)).trans E) (rp3.wr hp (zfz g1) ⟨_,zx,(g2.set (a1.ext (x2.trans x3)) j).ext E⟩) (a.ext ((x1.trans (x2.trans x3)).trans E))
   ·cases e
  ·cases e
 ·cases e
end
noncomputable abbrev SG:=D->DS->Option DS
noncomputable def gN (i:Nat):SG:=fun d σ=>some (σ.set i (some d))
noncomputable def gsNil:List D->DS->Option DS:=fun ds σ=>match ds with
 | []=>some σ
 | _=>none
noncomputable def gsCons (t:SG) (u:List D->DS->Option DS):List D->DS->Option DS:=fun ds σ=>match ds with
 | d::r=>(t d σ).bind fun σ1=>u r σ1
 | _=>none
noncomputable def gT (n:Nat) (u:List D->DS->Option DS):SG:=fun d σ=>match d with
 | .tup ds=>if ds.length=n then u ds σ else none
 | _=>none
noncomputable def gD (K:Fg) (b:SG):TG:=fun v τ H Q=>∃ρ σ d σ',AtS K ρ H σ τ/\At K ρ H d v/\b d σ=some σ'/\∀τ',AtS K ρ H σ' τ'->Q τ' H
noncomputable def gDs (K:Fg) (b:List D->DS->Option DS):TGs:=fun vs τ H Q=>∃ρ σ ds σ',AtS K ρ H σ τ/\AtAll K ρ H ds vs/\b ds σ=some σ'/\∀τ',AtS K ρ H σ' τ'->Q τ' H
noncomputable abbrev DG (X:Cx) (tg:Expr) (b:SG):Prop:=PG X tg (gD X.K b)
noncomputable abbrev DGs (X:Cx) (ts:List Expr) (b:List D->DS->Option DS):Prop:=PGs X ts (gDs X.K b)
section
variable {X:Cx}{pos:Pos}{e:Expr}{es:List Expr}{t:SG}{u:List D->DS->Option DS}
theorem zbju {g g':TG}(h:PG X e g)(k:∀v τ H Q,g' v τ H Q->g v τ H Q):PG X e g':=fun aA s σ H v u Q I r q=>h aA s σ H v u Q I r (k _ _ _ _ q)
theorem zbbk {g g':TGs}(h:PGs X es g)(k:∀v τ H Q,g' v τ H Q->g v τ H Q):PGs X es g':=fun aA s σ H v u Q I r q=>h aA s σ H v u Q I r (k _ _ _ _ q)
theorem zbdv {i:Nat}{x:Str}(hN:X.N.Nodup)(hi:X.N[i]?=some x)(hx:L2.Loc X.env.scope x)(hf:X.fn x=true\/X.env.scope.names.lookup x=some .local:=by first | exact .inl rfl | exact .inr rfl | assumption):DG X (.Name x pos) (gN i) :=
 zbju (zbbm hN hi hx hf) fun v τ H Q hq0=>by
 obtain⟨ρ,σ,d,σ',a,b,e,q⟩:=hq0;cases e;exact q _ (a.set b i)
theorem zbdu:DGs X [] gsNil:=zbbk zbbl fun v τ H Q hq0=>by
 obtain⟨ρ,σ,d,σ',a,b,e,q⟩:=hq0;unfold gsNil at e;split at e
 ·cases e;cases b;exact⟨rfl,q _ a⟩
 ·cases e
theorem zyo (h1:DG X e t)(h2:DGs X es u)(hs:(assignEach (e::es) X.env).map (·.2)=assign e X.env::(assignEach es X.env).map (·.2):=by rfl):DGs X (e::es) (gsCons t u) :=
 zbbk (zws h1 h2 hs) fun v τ H Q hq0=>by
 obtain⟨ρ,σ,d,σ',a,b,e,q⟩:=hq0;unfold gsCons at e;split at e
 ·obtain⟨σ1,e1,e2⟩:=xey.mp e;cases b with
  | cons b1 b2=>exact⟨_,_,rfl,ρ,σ,_,σ1,a,b1,e1,fun τ1 a1=>⟨ρ,σ1,_,σ',a1,b2,e2,q⟩⟩
 ·cases e
theorem zbie {k:Nat}{n:Nat}(hc:X.calm=true)(h:DGs X es u)(hn:(assignEach es X.env).length=n:=by rfl)(hst:(assignEach es X.env).findIdx? (·.1)=none:=by rfl):DG X (.Tuple es k pos) (gT n u) :=
 zbju (zbgf hc h hn hst) fun v τ H Q hq0=>by
 obtain⟨ρ,σ,d,σ',a,b,e,q⟩:=hq0;unfold gT at e;split at e
 ·split at e
  ·rename_i hl;cases b with
   | tup h1 h2 h3=>exact⟨_,_,rfl,SqT.of h1,by rw[h3.length];exact hl,ρ,σ,_,σ',a,h3,e,q⟩
  ·cases e
 ·cases e
end
structure ExtG (ρ:Loc) (H:Hp) (ρ':Loc) (H':Hp):Prop where
 len:ρ.m.length<=ρ'.m.length
 old:∀(n:Nat) (a:Addr),n < ρ.m.length->ρ'.m[n]?=some (some a)->ρ.m[n]?=some (some a)
 keep:∀a o,H a=some o->some a∉ρ.m->H' a=some o/\some a∉ρ'.m
 gho:∀a∈ρ'.g,a∈ρ.g\/H a=none
 frz:∀a ob u,H a=some (.frz ob u)->H' a=some (.frz ob u)
theorem Ext.toG {ρ ρ':Loc}{H H':Hp}(x:Ext ρ H ρ' H'):ExtG ρ H ρ' H':=⟨x.len,x.old,x.keep,fun a h=>.inl (by rw[← x.gho];exact h),x.frz⟩
theorem ExtG.then {ρ ρ1 ρ2:Loc}{H H1 H2:Hp}(a:ExtG ρ H ρ1 H1)(b:Ext ρ1 H1 ρ2 H2):ExtG ρ H ρ2 H2 :=
 ⟨xbb a.len b.len,fun n c h e=>a.old n c h (b.old n c (xbk h a.len) e),fun c o e n=>by
  obtain⟨e1,n1⟩:=a.keep c o e n
  exact b.keep c o e1 n1,fun c h=>a.gho c (by rw[← b.gho];exact h),fun c ob u e=>b.frz c ob u (a.frz c ob u e)⟩
theorem ExtG.out {ρ ρ':Loc}{H H':Hp}(x:ExtG ρ H ρ' H'){a:Addr}{o:HO}(h:H a=some o)(n:Out ρ a):H' a=some o/\Out ρ' a :=
 ⟨(x.keep a o h n.1).1,(x.keep a o h n.1).2,fun z=>by
  rcases x.gho a z with q | q
  ·exact n.2 q
  ·rw[h] at q;cases q⟩
theorem ExtG.mv {ρ ρ':Loc}{H H':Hp}(x:ExtG ρ H ρ' H'):Mv ρ H ρ' H':=⟨fun h n=>x.out h n,x.len,x.old⟩
theorem At.extG {K:Fg}{ρ ρ':Loc}{H H':Hp}(x:ExtG ρ H ρ' H'){d:D}{v:V}(h:At K ρ H d v):At K ρ' H' d v:=h.mv x.mv
theorem Ls.extG {K:Fg}{ρ ρ':Loc}{H H':Hp}{a:Addr}{vs:List V}(x:ExtG ρ H ρ' H')(h:Ls K ρ H a vs):Ls K ρ' H' a vs:=h.mv x.mv
structure ItOk (K:Fg) (ρ:Loc) (H:Hp) (J:It) (xs:List D):Prop where
 item:∀ρ2 H2,ExtG ρ H ρ2 H2->∀(i:Nat) (x:D),xs[i]?=some x->J.go i H2/\∀y H3,J.yld i H2 y H3->Ext ρ2 H2 ρ2 H3/\∀st,Rep K ρ2 st H2->Rep K ρ2 st H3/\At K ρ2 H3 x y
 done:∀ρ2 H2,ExtG ρ H ρ2 H2->∀i:Nat,xs.length<=i->J.stop i H2
noncomputable def iD (K:Fg) (f:SA):TI:=fun τ H R=>∃ρ σ st xs st',AtS K ρ H σ τ/\Rep K ρ st H/\f σ st=.ok xs st'/\∀ρ' H' J,Ext ρ H ρ' H'->Rep K ρ' st' H'->ItOk K ρ' H' J xs->R J H'
noncomputable abbrev DI (X:Cx) (tg iter:Expr) (f:SA):Prop:=PI X tg iter (iD X.K f)
noncomputable def seqV:D->Option (List D)
 | .tup xs=>some xs
 | .lst xs=>some xs
 | .scr xs=>some xs
 | _=>none
noncomputable def iSeq (f:SE):SA:=fun σ st=>(f σ st).bind fun x st1=>match seqV x with
 | some xs=>.ok xs st1
 | none=>.stuck
noncomputable def rng (lo:Int) (n:Nat):List D:=(List.range n).map fun(i:Nat)=>D.int (lo+i)
noncomputable def iR1 (g:SA):SA:=fun σ st=>(g σ st).bind fun xs st1=>match xs with
 | [.int j]=>if -(2 ^ 62)<=j/\j < 2 ^ 62 then .ok (rng 0 j.toNat) st1 else .stuck
 | _=>.stuck
noncomputable def iR2 (g:SA):SA:=fun σ st=>(g σ st).bind fun xs st1=>match xs with
 | [.int i,.int j]=>if -(2 ^ 62)<=i/\i < 2 ^ 62/\-(2 ^ 62)<=j/\j < 2 ^ 62 then .ok (rng i (j - i).toNat) st1 else .stuck
 | _=>.stuck
theorem zhg {lo:Int}{n i:Nat}{x:D}(h:(rng lo n)[i]?=some x):i < n/\x=.int (lo+i):=by
 unfold rng at h;rw[xck] at h;rcases xhl i n with z | z
 ·rw[List.getElem?_range z] at h;exact⟨z,(xcp h).symm⟩
 ·rw[xjh (by rw[xkd];exact z)] at h;cases h
theorem zbcz {K:Fg}{ρ:Loc}{H:Hp}{lo:Int}{n:Nat}:ItOk K ρ H (Itr lo n) (rng lo n) where
 item:=fun ρ2 H2 x i d e=>by
  obtain⟨h1,rfl⟩:=zhg e;refine⟨h1,fun y H3 hy=>?_⟩;obtain⟨rfl,rfl⟩:=hy;exact⟨.refl _ _,fun _ r=>⟨r,.int _⟩⟩
 done:=fun ρ2 H2 x i h=>by
  unfold rng at h;rw[xbd,xkd] at h;exact h
section
variable {X:Cx}{tg l a b:Expr}{f:SE}{g:SA}{p pos:Pos}
theorem zbbh {t t':TI}(h:PI X tg l t)(k:∀τ H R,t' τ H R->t τ H R):PI X tg l t':=fun aA s σ H R I q=>h aA s σ H R I (k _ _ _ q)
theorem zbkm {t t':TI}(h:PI X tg l t)(h':PI X tg l t'):PI X tg l (fun τ H R=>t τ H R\/t' τ H R):=fun aA s σ H R I q=>by
 rcases q with q | q
 ·exact h aA s σ H R I q
 ·exact h' aA s σ H R I q
theorem zvx {K:Fg}{ρ:Loc}{H:Hp}{p:Addr}{xs:List D}{vs:List V}(hs:∀ρ2 H2,ExtG ρ H ρ2 H2->SqL K H2 p vs)(al:AtAll K ρ H xs vs):ItOk K ρ H (Itl K p) xs where
 item:=fun ρ2 H2 x i d e=>by
  obtain⟨v,hv,a⟩:=al.get e;refine⟨⟨vs,v,hs _ _ x,hv⟩,fun y H3 hy=>?_⟩;obtain⟨rfl,h2⟩:=hy;have:=h2 vs (hs _ _ x);rw[hv] at this;cases this;exact⟨.refl _ _,fun _ r=>⟨r,a.extG x⟩⟩
 done:=fun ρ2 H2 x i h=>⟨vs,hs _ _ x,by rw[al.length];exact h⟩
theorem zbjk {K:Fg}{ρ:Loc}{H:Hp}{p:Addr}{xs:List D}{vs:List V}(hs:∀ρ2 H2,ExtG ρ H ρ2 H2->SqT K H2 p vs)(al:AtAll K ρ H xs vs):ItOk K ρ H (Itt K p) xs where
 item:=fun ρ2 H2 x i d e=>by
  obtain⟨v,hv,a⟩:=al.get e;refine⟨⟨vs,v,hs _ _ x,hv⟩,fun y H3 hy=>?_⟩;obtain⟨rfl,h2⟩:=hy;have:=h2 vs (hs _ _ x);rw[hv] at this;cases this;exact⟨.refl _ _,fun _ r=>⟨r,a.extG x⟩⟩
 done:=fun ρ2 H2 x i h=>⟨vs,hs _ _ x,by rw[al.length];exact h⟩
theorem zbid (hl:DE X l f):DI X tg l (iSeq f):=zbbh (zbkm (zbbi hl) (zbge hl)) fun τ H R hq0=>by
 obtain⟨ρ,σ,st,xs,st',a,rp,e,q⟩:=hq0;obtain⟨x,st1,e1,e⟩:=zc e;cases x with
 | tup ys =>
  cases e;refine .inr ⟨ρ,σ,st,_,_,a,rp,e1,fun ρ1 H1 u x1 rp1 a1=>?_⟩;cases a1 with
  | tup h1 h2 h3=>exact⟨_,rfl,⟨_,SqT.of h1⟩,q _ _ _ x1 rp1 (zbjk (fun ρ2 H2 x2=>SqT.of (x2.out h1 h2).1) h3)⟩
 | lst ys =>
  cases e;refine .inl ⟨ρ,σ,st,_,_,a,rp,e1,fun ρ1 H1 u x1 rp1 a1=>?_⟩;cases a1 with
  | lst h1 h2 h3=>exact⟨_,rfl,⟨_,SqL.of h1⟩,q _ _ _ x1 rp1 (zvx (fun ρ2 H2 x2=>SqL.of (x2.out h1 h2).1) h3)⟩
 | scr ys =>
  cases e;refine .inl ⟨ρ,σ,st,_,_,a,rp,e1,fun ρ1 H1 u x1 rp1 a1=>?_⟩;cases a1 with
  | scr h1 h3=>exact⟨_,rfl,⟨_,h1.sq⟩,q _ _ _ x1 rp1 (zvx (fun ρ2 H2 x2=>(h1.extG x2).sq) h3)⟩
 | _=>cases e
theorem zub (hg:Gl X "range")(hm:X.mg "range"=none)(ha:DA X [a] g)(hs:starEach [a] X.env=[(false, eval a X.env)]:=by rfl):DI X tg (.Call (.Name "range" p) [a] [] pos) (iR1 g) :=
 zbbh (zsz hg hm ha hs) fun τ H R hq0=>by
 obtain⟨ρ,σ,st,xs,st',a,rp,e,q⟩:=hq0;obtain⟨x,st1,e1,e⟩:=zc e;split at e
 ·split at e
  ·rename_i hj;cases e;refine⟨ρ,σ,st,_,_,a,rp,e1,fun ρ1 H1 u x1 rp1 a1=>?_⟩;obtain⟨w,rfl,a2⟩:=a1.one;cases a2;exact⟨_,rfl,hj.1,hj.2,q _ _ _ x1 rp1 zbcz⟩
  ·cases e
 ·cases e
theorem zua (hg:Gl X "range")(hm:X.mg "range"=none)(ha:DA X [a, b] g)(hs:starEach [a, b] X.env=[(false, eval a X.env),(false, eval b X.env)]:=by rfl)(hs2:starEach [b] X.env=[(false, eval b X.env)]:=by rfl):DI X tg (.Call (.Name "range" p) [a, b] [] pos) (iR2 g) :=
 zbbh (zsy hg hm ha hs hs2) fun τ H R hq0=>by
 obtain⟨ρ,σ,st,xs,st',a,rp,e,q⟩:=hq0;obtain⟨x,st1,e1,e⟩:=zc e;split at e
 ·split at e
  ·rename_i hj;cases e;refine⟨ρ,σ,st,_,_,a,rp,e1,fun ρ1 H1 u x1 rp1 a1=>?_⟩;obtain⟨w,w2,rfl,a2,a3⟩:=a1.two;cases a2;cases a3;exact⟨_,_,rfl,hj,q _ _ _ x1 rp1 zbcz⟩
  ·cases e
 ·cases e
end
noncomputable def iDict (f:SE):SA:=fun σ st=>(f σ st).bind fun x st1=>match x with
 | .ref n=>match st1[n]? with
  | some (.dT kvs)=>.ok (rowsD (kvs.map (·.1))) (st1.set n (.fT kvs))
  | _=>.stuck
 | _=>.stuck
section
variable {X:Cx}{tg l:Expr}{f:SE}
theorem zbdt (hl:DE X l f):DI X tg l (iDict f):=zbbh (zbbj hl) fun τ H R hq0=>by
 obtain⟨ρ,σ,st,xs,st',a,rp,e,q⟩:=hq0;obtain⟨x,st1,e1,e⟩:=zc e;refine⟨ρ,σ,st,x,st1,a,rp,e1,fun ρ1 H1 u x1 rp1 a1=>?_⟩;split at e
 ·rename_i n;split at e
  ·rename_i kvs hn;cases e;obtain⟨p,rfl,hp,vs,g1,g2⟩:=zdr rp1 a1 hn (by intro z;cases z);refine⟨p,vs,kvs.map (·.1),rfl,g1,g2.keys,fun ob ps h1 h2=>?_⟩;have E:Ext ρ1 H1 ρ1 (upd H1 p (.frz ob (.dT vs))):=Ext.wr hp (zix g1) _;have R:Rep X.K ρ1 (st1.set n (.fT kvs)) (upd H1 p (.frz ob (.dT vs))):=rp1.wr hp (zix g1) ⟨vs,ob,zx,g2.ext E⟩;refine q _ _ _ (x1.trans E) R ⟨fun ρ2 H2 x2 i d e=>?_,fun ρ2 H2 x2 i h=>?_⟩
   ·have e2:(ps.map (·.2))[i]?=(kvs.map (·.1))[i]?:=by rw[h1]
    unfold rowsD at e;rw[xck,← e2,xck] at e;cases hi:ps[i]? with
    | none=>rw[hi] at e;cases e
    | some x =>
     rw[hi] at e;cases e;refine⟨⟨(xbc.mp hi).1,x2.frz _ _ _ zx⟩,fun y H3 hy=>?_⟩;obtain⟨rfl,x',hx',rfl⟩:=hy;rw[hi] at hx';cases hx';have ht:=h2 x (xbs hi);have a3:At X.K ρ1 H1 (rowD x.2) (.ref x.1):=.tup ht (zno rp1 ht) (zkb _);exact⟨.refl _ _,fun _ r=>⟨r,(a3.ext E).extG x2⟩⟩
   ·have e2:=congrArg List.length h1;rw[xbd] at e2;unfold rowsD at h;rw[xbd,← e2] at h;exact⟨h,x2.frz _ _ _ zx⟩
  ·cases e
 ·cases e
end
noncomputable def forF (bd:SG) (body:SS):List D->SS
 | [],σ,st=>.ok (.nx σ) st
 | x::xs,σ,st=>match bd x σ with
  | none=>.stuck
  | some σ1=>match body σ1 st with
   | .ok (.nx σ2) st2=>forF bd body xs σ2 st2
   | .ok (.ct σ2) st2=>forF bd body xs σ2 st2
   | .ok (.brk σ2) st2=>.ok (.nx σ2) st2
   | r=>r
noncomputable def sFor (it:SA) (bd:SG) (body:SS):SS:=fun σ st=>(it σ st).bind fun xs st1=>forF bd body xs σ st1
noncomputable def whileF (c:ST) (body:SS):Nat->SS
 | 0,_,_=>.stuck
 | n+1,σ,st=>(c σ st).bind fun b st1=>if b=true then(match body σ st1 with
  | .ok (.nx σ2) st2=>whileF c body n σ2 st2
  | .ok (.ct σ2) st2=>whileF c body n σ2 st2
  | .ok (.brk σ2) st2=>.ok (.nx σ2) st2
  | r=>r) else .ok (.nx σ) st1
noncomputable def wCap:Nat:=1000000
noncomputable def sWhile (c:ST) (body:SS):SS:=whileF c body wCap
theorem zvq {α:Type}{xs:List α}{i:Nat}(h:i < xs.length):∃x,xs[i]?=some x/\xs.drop i=x::xs.drop (i+1):=⟨xs[i],xbe h,xcu h⟩
section
variable {X:Cx}{tg iter c:Expr}{body:List Stmt}{it:SA}{bd:SG}{b:SS}{t:ST}{pos:Pos}
theorem zbib (hp:PassesOwn (model X.prog X.w) X.A X.env X.xe)(hc:X.calm=true)(hi:DI X tg iter it)(hg:DG X tg bd)(hb:DSs X body b)(hs:∀x,foldedSetIterable iter X.env x=pure x:=by intro _;rfl) :
  DSt X (.For tg iter body [] pos) (sFor it bd b):=zsv (zbgc hp hc hi hg hb hs) fun E τ H hq0=>by
 obtain⟨ρ,σ,st,fl,st',a,rp,e,q⟩:=hq0;obtain⟨xs,st1,e1,e⟩:=zc e;refine⟨ρ,σ,st,xs,st1,a,rp,e1,fun ρ1 H1 J x1 rp1 ok=>?_⟩;have q1:=q.ext x1;refine⟨fun i m τ' H'=>i+m=xs.length/\∃ρ2 σ2 st2,Ext ρ1 H1 ρ2 H'/\AtS X.K ρ2 H' σ2 τ'/\Rep X.K ρ2 st2 H'/\forF bd b (xs.drop i) σ2 st2=.ok fl st',⟨xs.length,by lia,ρ1,σ,st1,.refl _ _,a.ext x1,rp1,e⟩,?_⟩;rintro i m τ' H' ⟨him,ρ2,σ2,st2,x2,a2,rp2,e2⟩;rcases xhl i xs.length with hlt | hge
 ·obtain⟨x,hx,hd⟩:=zvq hlt;rw[hd] at e2;obtain⟨go,yl⟩:=ok.item ρ2 H' x2.toG i x hx;refine .inr ⟨go,fun τ3 H3=>∃ρ3 σ3 st3,Ext ρ1 H1 ρ3 H3/\AtS X.K ρ3 H3 σ3 τ3/\Rep X.K ρ3 st3 H3/\forF bd b (xs.drop (i+1)) σ3 st3=.ok fl st',fun τ3 H3 ⟨ρ3,σ3,st3,n1,n2,n3,n4⟩=>⟨m - 1,by lia,by lia,ρ3,σ3,st3,n1,n2,n3,n4⟩,fun y H3 hy=>?_⟩;obtain⟨y1,y4⟩:=yl y H3 hy;obtain⟨y2,y3⟩:=y4 _ rp2;unfold forF at e2;cases hbd:bd x σ2 with
  | none=>rw[hbd] at e2;cases e2
  | some σ1 =>
   rw[hbd] at e2;dsimp only at e2;have X3:=x2.trans y1;refine⟨ρ2,σ2,x,σ1,a2.ext y1,y3,hbd,fun τ4 a4=>?_⟩;cases hr:b σ1 st2 with
   | stuck=>rw[hr] at e2;cases e2
   | exc z w=>rw[hr] at e2;cases e2
   | ok fb st3 =>
    rw[hr] at e2;refine⟨ρ2,σ1,st2,fb,st3,a4,y2,hr,?_⟩;cases fb with
    | nx σ3=>exact fun ρ' H'' τ5 x5 rp5 a5=>⟨ρ',σ3,st3,X3.trans x5,a5,rp5,e2⟩
    | ct σ3=>exact fun ρ' H'' τ5 x5 rp5 a5=>⟨ρ',σ3,st3,X3.trans x5,a5,rp5,e2⟩
    | brk σ3 =>
     dsimp only at e2;cases e2;exact fun ρ' H'' τ5 x5 rp5 a5=>q1 _ _ _ (X3.trans x5) rp5 a5
    | ret v =>
     dsimp only at e2;cases e2;exact fun ρ' H'' u x5 rp5 a5=>q1 _ _ _ (X3.trans x5) rp5 a5
 ·rw[xhd hge] at e2;unfold forF at e2;cases e2;exact .inl ⟨ok.done ρ2 H' x2.toG i hge,q1 _ _ _ x2 rp2 a2⟩
theorem zye (hp:PassesOwn (model X.prog X.w) X.A X.env X.xe)(hc:DT X c t)(hb:DSs X body b):DSt X (.While c body [] pos) (sWhile t b):=zsv (zwn hp hc hb) fun E τ H hq0=>by
 obtain⟨ρ,σ,st,fl,st',a,rp,e,q⟩:=hq0;unfold sWhile at e;generalize wCap=n at e;refine⟨fun m τ' H'=>∃ρ2 σ2 st2,Ext ρ H ρ2 H'/\AtS X.K ρ2 H' σ2 τ'/\Rep X.K ρ2 st2 H'/\whileF t b m σ2 st2=.ok fl st',⟨n,ρ,σ,st,.refl _ _,a,rp,e⟩,?_⟩;rintro m τ' H' ⟨ρ2,σ2,st2,x2,a2,rp2,e2⟩;cases m with
 | zero=>unfold whileF at e2;cases e2
 | succ m =>
  unfold whileF at e2;obtain⟨x,st3,e3,e4⟩:=zc e2;refine⟨ρ2,σ2,st2,x,st3,a2,rp2,e3,fun ρ3 H3 x3 rp3=>?_⟩;have X3:=x2.trans x3;cases x with
  | false =>
   rw[if_neg (by decide)] at e4;cases e4;exact iteF (q _ _ _ X3 rp3 (a2.ext x3))
  | true =>
   rw[if_pos rfl] at e4;refine iteT ⟨fun τ4 H4=>∃ρ4 σ4 st4,Ext ρ H ρ4 H4/\AtS X.K ρ4 H4 σ4 τ4/\Rep X.K ρ4 st4 H4/\whileF t b m σ4 st4=.ok fl st',fun τ4 H4 hh=>⟨m,xjd m,hh⟩,?_⟩;cases hr:b σ2 st3 with
   | stuck=>rw[hr] at e4;cases e4
   | exc z w=>rw[hr] at e4;cases e4
   | ok fb st5 =>
    rw[hr] at e4;refine⟨ρ3,σ2,st3,fb,st5,a2.ext x3,rp3,hr,?_⟩;cases fb with
    | nx σ3=>exact fun ρ' H'' τ5 x5 rp5 a5=>⟨ρ',σ3,st5,X3.trans x5,a5,rp5,e4⟩
    | ct σ3=>exact fun ρ' H'' τ5 x5 rp5 a5=>⟨ρ',σ3,st5,X3.trans x5,a5,rp5,e4⟩
    | brk σ3 =>
     dsimp only at e4;cases e4;exact fun ρ' H'' τ5 x5 rp5 a5=>q _ _ _ (X3.trans x5) rp5 a5
    | ret v =>
     dsimp only at e4;cases e4;exact fun ρ' H'' u x5 rp5 a5=>q _ _ _ (X3.trans x5) rp5 a5
end
noncomputable def compF (bd:SG) (c:ST) (f:SE):List D->DS->Store->Res (List D)
 | [],_,st=>.ok [] st
 | x::xs,σ,st=>match bd x σ with
  | none=>.stuck
  | some σ1=>(c σ1 st).bind fun b st1=>if b=true then(f σ1 st1).bind fun y st2=>(compF bd c f xs σ1 st2).bind fun ys st3=>.ok (y::ys) st3 else compF bd c f xs σ1 st1
noncomputable def startD (k:Nat) (is:List Nat) (σ:DS):DS:=List.replicate k none++is.map fun i=>(σ[i]?).getD none
noncomputable def eComp (it:SA) (k:Nat) (is:List Nat) (bd:SG) (c:ST) (f:SE):SE:=fun σ st=>(it σ st).bind fun xs st1=>if xs.length<=sizeLine then(compF bd c f xs (startD k is σ) st1).bind fun ys st2=>.ok (.lst ys) st2 else .stuck
noncomputable def bYes:ST:=fun _ st=>.ok true st
theorem AtS.start {K:Fg}{ρ:Loc}{H:Hp}{σ:DS}{τ:St}(h:AtS K ρ H σ τ)(k:Nat)(is:List Nat):AtS K ρ H (startD k is σ) (startC k is τ):=by
 have app:∀{a c:DS} {b d:St},AtS K ρ H a b->AtS K ρ H c d->AtS K ρ H (a++c) (b++d):=fun h1 h2=>by
  induction h1 with
  | nil=>exact h2
  | cons r t ih=>exact .cons r ih
 refine app ?_ ?_
 ·induction k with
  | zero=>exact .nil
  | succ k ih=>exact .cons (fun d e=>nomatch e) ih
 ·induction is with
  | nil=>exact .nil
  | cons i is ih =>
   refine .cons (fun d e=>?_) ih;have e:(σ[i]?).getD none=some d:=e;have e':σ[i]?=some (some d):=by
    cases q:σ[i]? with
    | none=>rw[q] at e;cases e
    | some o=>rw[q] at e;exact congrArg some e
   obtain⟨u,hu,a⟩:=h.get e';exact⟨u,by show(τ[i]?).getD none=some u;rw[hu];rfl,a⟩
noncomputable def Loc.with (ρ:Loc) (p:Addr):Loc:=⟨ρ.m,p::ρ.g⟩
theorem zzx {ρ:Loc}{H:Hp}{p:Addr}{o:HO}(hp:H p=none):Mv ρ H (ρ.with p) (upd H p o):=⟨fun e n=>⟨by rw[zv (zl e hp)];exact e,n.1,fun z=>by
 rcases xbr.mp z with z | z
 ·exact zl e hp z
 ·exact n.2 z⟩,xbg _,fun _ _ _ e=>e⟩
theorem At.with {K:Fg}{ρ:Loc}{H:Hp}{p:Addr}{o:HO}(hp:H p=none){d:D}{v:V}(h:At K ρ H d v):At K (ρ.with p) (upd H p o) d v:=h.mv (zzx hp)
theorem zvn {ρ ρ':Loc}{H:Hp}{p:Addr}{o:HO}(hm:ρ'.m=ρ.m)(hg:p∈ρ.g)(hs:∀a,a∈ρ'.g->a∈ρ.g):Mv ρ H ρ' (upd H p o):=⟨fun e n=>⟨by rw[zv (by rintro rfl;exact n.2 hg)];exact e,by rw[hm];exact n.1,fun z=>n.2 (hs _ z)⟩,by rw[hm];exact xbg _,fun _ _ _ e=>by rw[hm] at e;exact e⟩
theorem At.grow {K:Fg}{ρ ρ':Loc}{H:Hp}{p:Addr}{o:HO}(hm:ρ'.m=ρ.m)(hg:p∈ρ.g)(hs:∀a,a∈ρ'.g->a∈ρ.g){d:D}{v:V}(h:At K ρ H d v):At K ρ' (upd H p o) d v:=h.mv (zvn hm hg hs)
theorem AtAll.grow {K:Fg}{ρ ρ':Loc}{H:Hp}{p:Addr}{o:HO}(hm:ρ'.m=ρ.m)(hg:p∈ρ.g)(hs:∀a,a∈ρ'.g->a∈ρ.g){d:List D}{v:List V}(h:AtAll K ρ H d v):AtAll K ρ' (upd H p o) d v:=h.mv (zvn hm hg hs)
theorem OAt.map {K:Fg}{ρ ρ':Loc}{H H':Hp}{a:Addr}{x:O}(k:∀d v,At K ρ H d v->At K ρ' H' d v)(fz:∀b ob u,H b=some (.frz ob u)->H' b=some (.frz ob u))(same:H' a=H a)(h:OAt K ρ H x a):OAt K ρ' H' x a:=by
 have ka:∀{d:List D} {v:List V},AtAll K ρ H d v->AtAll K ρ' H' d v:=fun {d v} h=>by
  induction d generalizing v with
  | nil=>cases h;exact .nil
  | cons x xs ih=>cases h with | cons a b=>exact .cons (k _ _ a) (ih b)
 cases x with
 | lst xs=>obtain⟨vs,q,r⟩:=h;exact⟨vs,by rw[same];exact q,ka r⟩
 | dT kvs=>obtain⟨vs,q,r⟩:=h;exact⟨vs,by rw[same];exact q,Paired.mapP r fun p q z=>⟨z.1,k _ _ z.2⟩⟩
 | fT kvs=>obtain⟨vs,ob,q,r⟩:=h;exact⟨vs,ob,by rw[same];exact q,Paired.mapP r fun p q z=>⟨z.1,k _ _ z.2⟩⟩
 | dI kvs=>obtain⟨vs,q,r⟩:=h;exact⟨vs,by rw[same];exact q,Paired.mapP r fun p q z=>⟨z.1,k _ _ z.2⟩⟩
 | dead=>exact h.elim
 | tab=>obtain⟨c,ps,q,r⟩:=h;exact⟨c,ps,by rw[same];exact q,r.map fz⟩
theorem Rep.with {K:Fg}{ρ:Loc}{st:Store}{H:Hp}{p:Addr}(r:Rep K ρ st H)(hp:H p=none)(vs:List V):Rep K (ρ.with p) st (upd H p (.lst vs)) :=
 ⟨r.len,r.inj,fun m b y e1 e2=>by
  have q:=r.obj m b y e1 e2;obtain⟨u,hu⟩:=q.has;exact q.map (fun d v h=>h.with hp) (fun b ob u e=>by rw[zv (zl e hp)];exact e) (zv (zl hu hp)),fun a ha=>by
  rcases xbr.mp ha with rfl | ha
  ·exact⟨⟨vs,zx⟩,(zjw r hp).1⟩
  ·obtain⟨⟨ws,h1⟩,h2⟩:=r.gh a ha
   exact⟨⟨ws,by rw[zv (zl h1 hp)];exact h1⟩,h2⟩,r.live⟩
theorem Rep.grow {K:Fg}{ρ ρ':Loc}{st:Store}{H:Hp}{p:Addr}(r:Rep K ρ st H)(hm:ρ'.m=ρ.m)(hg:p∈ρ.g)(hs:∀a,a∈ρ'.g->a∈ρ.g)(vs:List V):Rep K ρ' st (upd H p (.lst vs)) :=
 ⟨by rw[hm];exact r.len,by rw[hm];exact r.inj,fun m b y e1 e2=>by
  rw[hm] at e1;refine(r.obj m b y e1 e2).map (fun d v h=>h.grow hm hg hs) (fun b ob u e=>by rw[zv (by rintro rfl;obtain⟨⟨_,z⟩,_⟩:=r.gh _ hg;rw[e] at z;cases z)];exact e) (zv ?_);rintro rfl;exact(r.gh b hg).2 (xbs e1),fun a ha=>by
  obtain⟨⟨ws,h1⟩,h2⟩:=r.gh a (hs a ha);refine⟨?_,by rw[hm];exact h2⟩;by_cases e:a=p
  ·subst e;exact⟨vs,zx⟩
  ·exact⟨ws,by rw[zv e];exact h1⟩,by rw[hm];exact r.live⟩
theorem AtS.map {K:Fg}{ρ ρ':Loc}{H H':Hp}{σ:DS}{τ:St}(k:∀d v,At K ρ H d v->At K ρ' H' d v)(h:AtS K ρ H σ τ):AtS K ρ' H' σ τ:=Paired.mapP h fun o v z d e=>by
 obtain⟨u,e1,a⟩:=z d e;exact⟨u,e1,k _ _ a⟩
section
variable {X:Cx}{tg iter elt:Expr}{ifs:List Expr}{it:SA}{bd:SG}{c:ST}{f:SE}{N:List Str}{k:Nat}{is:List Nat}{scope:Scope}{pos:Pos}
inductive CI (K:Fg) (bd:SG) (c:ST) (f:SE) (xs ys:List D) (st2:Store) (ρ1:Loc) (H1:Hp) (p:Addr) (i:Nat) (τ:St) (H':Hp):Prop where
 | mk {ρ2:Loc} {σ2:DS} {st3:Store} {acc:List D} {accV:List V} {zs:List D} (x2:ExtG ρ1 H1 ρ2 H') (hg:ρ2.g=p::ρ1.g) (hpp:H' p=some (.lst accV)) (hal:AtAll K ρ2 H' acc accV) (hli:acc.length<=i) (a2:AtS K ρ2 H' σ2 τ) (rp2:Rep K ρ2 st3 H') (e3:compF bd c f (xs.drop i) σ2 st3=.ok zs st2) (hac:acc++zs=ys):CI K bd c f xs ys st2 ρ1 H1 p i τ H'
theorem zbir {K:Fg}{τ:St}{H:Hp}{Q:V->Hp->Prop}{ρ:Loc}{σ:DS}{st st1 st2:Store}{xs ys:List D}(a:AtS K ρ H σ τ)(rp:Rep K ρ st H)(e1:it σ st=.ok xs st1)(hlen:xs.length<=sizeLine)(e2:compF bd c f xs (startD k is σ) st1=.ok ys st2)
 (fin:∀ρ1 H1 p ρ2 H' accV,Ext ρ H ρ1 H1->Rep K ρ1 st1 H1->H1 p=none->ExtG ρ1 H1 ρ2 H'->ρ2.g=p::ρ1.g->H' p=some (.lst accV)->AtAll K ρ2 H' ys accV->Rep K ρ2 st2 H'->Q (.ref p) H'):tComp (iD K it) k is (gD K bd) (tDT K c) (tD K f) τ H Q:=by
 refine⟨ρ,σ,st,xs,st1,a,rp,e1,fun ρ1 H1 J x1 rp1 ok p hp=>?_⟩
 refine⟨fun i m τ' H'=>i+m=xs.length/\CI K bd c f xs ys st2 ρ1 H1 p i τ' H',
  ⟨xs.length,by lia,.mk ?_ rfl zx .nil (xef _) (((a.ext x1).start k is).map fun d v h=>h.with hp) (rp1.with hp []) e2 rfl⟩,?_⟩
 ·have E:Ext ρ1 H1 ρ1 (upd H1 p (.lst [])):=Ext.new hp _
  exact⟨E.len,E.old,E.keep,fun a h=>by
   rcases xbr.mp h with rfl | h
   ·exact .inr hp
   ·exact .inl h,E.frz⟩
 rintro i m τ' H' ⟨him,@⟨ρ2,σ2,st3,acc,accV,zs,x2,hg,hpp,hal,hli,a2,rp2,e3,hac⟩⟩;have hpg:p∈ρ2.g:=by rw[hg];exact xcn
 rcases xhl i xs.length with hlt | hge
 ·obtain⟨x,hx,hd⟩:=zvq hlt;rw[hd] at e3;obtain⟨go,yl⟩:=ok.item ρ2 H' x2 i x hx
  refine .inr ⟨go,CI K bd c f xs ys st2 ρ1 H1 p (i+1),
   fun τ4 H4 hh=>⟨m - 1,by lia,by lia,hh⟩,fun y H3 hy=>?_⟩
  obtain⟨y1,y4⟩:=yl y H3 hy;obtain⟨y2,y3⟩:=y4 _ rp2;unfold compF at e3;cases hbd:bd x σ2 with
  | none=>rw[hbd] at e3;cases e3
  | some σ1 =>
   rw[hbd] at e3;dsimp only at e3;obtain⟨bb,st4,e4,e5⟩:=zc e3;refine⟨ρ2,σ2,x,σ1,a2.ext y1,y3,hbd,fun τ4 a4=>?_⟩;have hpm:some p∉ρ2.m:=(rp2.gh p hpg).2;have hpp3:=(y1.keep p _ hpp hpm).1;refine⟨ρ2,σ1,st3,bb,st4,a4,y2,e4,fun ρ5 H5 x5 rp5=>?_⟩;have hpp5:=(x5.keep p _ hpp3 hpm).1;have hal5:=(hal.ext y1).ext x5;have g5:ρ5.g=p::ρ1.g:=x5.gho.trans hg;cases bb with
   | false =>
    rw[if_neg (by decide)] at e5;exact iteF (.mk ((x2.then y1).then x5) g5 hpp5 hal5 (xfk hli) (a4.ext x5) rp5 e5 hac)
   | true =>
    rw[if_pos rfl] at e5;obtain⟨w,st6,e6,e7⟩:=zc e5;obtain⟨zs',st7,e8,e9⟩:=zc e7;cases e9;refine iteT ⟨ρ5,σ1,st4,w,st6,a4.ext x5,rp5,e6,fun ρ6 H6 u x6 rp6 a6=>?_⟩;have hpm5:some p∉ρ5.m:=(x5.keep p _ hpp3 hpm).2;have hpp6:=(x6.keep p _ hpp5 hpm5).1;have g6:ρ6.g=p::ρ1.g:=x6.gho.trans g5;have hp6:p∈ρ6.g:=by rw[g6];exact xcn
    have hl6:accV.length<=i:=by rw[hal.length];exact hli
    refine⟨accV,hpp6,xcx hl6 (xbk hlt hlen),.mk (acc:=acc++[w]) (accV:=accV++[u]) ?_ g6 zx ?_ (by rw[xbp];exact xet hli) ?_ (rp6.grow rfl hp6 (fun _ h=>h) _) e8 (by rw[← hac,xcg];rfl)⟩
    ·have G:=((x2.then y1).then x5).then x6;refine⟨G.len,G.old,fun b o e n=>?_,G.gho,fun b ob uu e=>?_⟩
     ·rw[zv (zl e hp)];exact G.keep b o e n
     ·rw[zv (zl e hp)];exact G.frz b ob uu e
    ·exact((hal5.ext x6).append (.cons a6 .nil)).grow rfl hp6 (fun _ h=>h)
    ·exact(a4.ext (x5.trans x6)).map fun d v h=>h.grow rfl hp6 (fun _ h=>h)
 ·rw[xhd hge] at e3;unfold compF at e3;cases e3;rw[xep] at hac;subst hac;exact .inl ⟨ok.done _ _ x2 i hge,fin _ _ _ _ _ _ x1 rp1 hp x2 hg hpp hal rp2⟩
theorem zbeh {K:Fg}:∀τ H Q,tD K (eComp it k is bd c f) τ H Q->tComp (iD K it) k is (gD K bd) (tDT K c) (tD K f) τ H Q:=fun τ H Q hq0=>by
 obtain⟨ρ,σ,st,v,st',a,rp,e,q⟩:=hq0;obtain⟨xs,st1,e1,e⟩:=zc e;split at e
 ·rename_i hlen;obtain⟨ys,st2,e2,e⟩:=zc e;cases e;refine zbir a rp e1 hlen e2 fun ρ1 H1 p ρ2 H' accV x1 rp1 hp x2 hg hpp hal rp2=>?_
  have hpg:p∈ρ2.g:=by rw[hg];exact xcn
  have hpm:some p∉ρ2.m:=(rp2.gh p hpg).2;have self:upd H' p (.lst accV)=H':=zwa hpp;have sub:∀a,a∈(⟨ρ2.m,ρ1.g⟩:Loc).g->a∈ρ2.g:=fun b hb=>by rw[hg];exact xbm _ hb
  have E:Ext ρ1 H1 ⟨ρ2.m,ρ1.g⟩ H':=⟨x2.len,x2.old,x2.keep,rfl,x2.frz⟩
  have R:=rp2.grow (ρ':=⟨ρ2.m,ρ1.g⟩) rfl hpg sub accV;have L:=AtAll.grow (ρ:=ρ2) (ρ':=⟨ρ2.m,ρ1.g⟩) (o:=.lst accV) rfl hpg sub hal;rw[self] at R L;refine q _ _ _ (x1.trans E) R (.lst hpp ⟨hpm,fun z=>?_⟩ L);obtain⟨⟨ws,h1⟩,_⟩:=rp1.gh p z;rw[hp] at h1;cases h1
 ·cases e
theorem zbip (hcalm:X.calm=true)(hi:DI X tg iter it)(hg:∀cl C fp s H,DG (cxC X N scope cl C fp s H) tg bd)(hc:∀cl C fp s H,PIf (cxC X N scope cl C fp s H) ifs (tDT X.K c))(he:∀cl C fp s H,DE (cxC X N scope cl C fp s H) elt f)
 (S:CompScope X N k is scope)(hs:∀x,foldedSetIterable iter X.env x=pure x:=by intro _;rfl):DE X (.ListComp elt [⟨tg,iter,ifs,0⟩] scope pos) (eComp it k is bd c f):=zfp (zbbq hcalm hi hg hc he S hs) zbeh
theorem zbdk {i:Nat}{x:Str}{pos' spos:Pos}(hcalm:X.calm=true)(hN:X.N.Nodup)(hxi:X.N[i]?=some x)(hx:L2.Loc X.env.scope x)(hi:DI X tg iter it)(hg:∀cl C fp s H,DG (cxC X N scope cl C fp s H) tg bd)
  (hc:∀cl C fp s H,PIf (cxC X N scope cl C fp s H) ifs (tDT X.K c))(he:∀cl C fp s H,DE (cxC X N scope cl C fp s H) elt f)(S:CompScope X N k is scope)
  (hsw:swapsWith (.ListComp elt [⟨tg,iter,ifs,0⟩] scope pos) (some (.Name x pos')) spos.line X.env=pure true:=by rfl)
  (hf:X.fn x=true\/X.env.scope.names.lookup x=some .local:=by first | exact .inl rfl | exact .inr rfl | assumption)
  (hs:∀x,foldedSetIterable iter X.env x=pure x:=by intro _;rfl):DSt X (.Assign [.Name x pos'] (.ListComp elt [⟨tg,iter,ifs,0⟩] scope pos) spos) (sSet i (eComp it k is bd c f)) :=
 zsv (zbaz hcalm hN hxi hx hi hg hc he S hsw hf hs) fun E τ H h=>by
  obtain⟨ρ,σ,st,fl,st',a,rp,e,q⟩:=h;obtain⟨v,st1,e1,e⟩:=zc e;cases e;exact zbeh τ H _ ⟨ρ,σ,st,v,_,a,rp,e1,fun ρ' H' u x r t=>q _ _ _ x r ((a.ext x).set t i)⟩
theorem zbds {X:Cx}:PIf X [] (tDT X.K bYes):=fun aA s σ H Q I hq0=>by
 obtain⟨ρ,σ',st,v,st',a,rp,e,q⟩:=hq0;cases e;exact zbbg aA s σ H Q I (q _ _ (.refl _ _) rp)
theorem zbdr {X:Cx}{c:Expr}{t:ST}(h:DT X c t):PIf X [c] (tDT X.K t):=zbbf h
end
end Dd
namespace Dd
open PySem L2 PyProof.Rows
noncomputable def spD (K:Fg) (np:Nat) (F:DFn):Sp:=fun vs H Q _=>∃ρ ds st v st',AtAll K ρ H ds vs/\Rep K ρ st H/\F ds st=.ok v st'/\vs.length=np/\∀ρ' H' u,Ext ρ H ρ' H'->Rep K ρ' st' H'->At K ρ' H' v u->Q u H'
noncomputable def CalD (P:Program) (w:World) (K:Fg) (mg:Str->Option Value) (base:Heap) (x:Str) (k:Nat) (ps:List Str) (F:DFn):Prop:=Callee P w K mg base x k ps (spD K ps.length F)
noncomputable def fnD (n np:Nat) (body:SS):DFn:=fun ds st=>if ds.length=np then(match body (ds.map some++List.replicate (n - np) none) st with
 | .ok (.ret v) st'=>.ok v st'
 | .ok (.nx _) st'=>.ok .non st'
 | .exc x st'=>.exc x st'
 | _=>.stuck) else .stuck
section
variable {X:Cx}{x:Str}{k:Nat}{ps:List Str}{F:DFn}{p pos:Pos}{e:Expr}{es:List Expr}{g:SA}
theorem zbis {K:Fg}{np:Nat}{f:SA}(hn:∀ds st v st',F ds st=.ok v st'->ds.length=np):∀τ H Q,tD K (eCall F f) τ H Q->tCall (spD K np F) [] E0 (tDA K f) τ H Q:=fun τ H Q hq0=>by
 obtain⟨ρ,σ,st,v,st',a,rp,e,q⟩:=hq0;obtain⟨x,st1,e1,e⟩:=zc e;refine⟨ρ,σ,st,x,st1,a,rp,e1,fun ρ1 H1 u x1 rp1 a1=>?_⟩;show spD K np F (u++[]) H1 Q E0;rw[xep];exact⟨ρ1,x,st1,v,st',a1,rp1,e,by rw[a1.length];exact hn _ _ _ _ e,fun ρ' H' w x2=>q ρ' H' w (x1.trans x2)⟩
theorem zbiq (c:CalD X.prog X.w X.K X.mg X.base x k ps F)(hn:∀ ds st v st', F ds st=.ok v st'->ds.length=ps.length)(hr:Room k X.A)(hg:Gl X x)(ha:DA X (e::es) g)(hdb:(x==("__debug__" : Str))=false:=by decide)
 (he:starEach (e::es) X.env=(false,eval e X.env)::starEach es X.env:=by rfl)(hpl:(backTo pos (starEach es X.env)).any (·.1)=false:=by rfl) :
 DE X (.Call (.Name x p) (e::es) [] pos) (eCall F g):=zfp (zwz c hr hg ha hdb he hpl) (zbis hn)
theorem zr {n np:Nat}{b:SS}{ds:List D}{st st':Store}{v:D}(h:fnD n np b ds st=.ok v st'):ds.length=np:=by
 unfold fnD at h;split at h
 ·assumption
 ·cases h
end
theorem AtAll.some {K:Fg}{ρ:Loc}{H:Hp}:∀{ds:List D} {vs:List V},AtAll K ρ H ds vs->AtS K ρ H (ds.map Option.some) (vs.map Option.some)
 | _,_,.nil=>.nil
 | _,_,.cons a b=>.cons (fun d e=>by cases e;exact⟨_,rfl,a⟩) (AtAll.some b)
theorem AtS.append {K:Fg}{ρ:Loc}{H:Hp}:∀{a c:DS} {b d:L2.St},AtS K ρ H a b->AtS K ρ H c d->AtS K ρ H (a++c) (b++d)
 | _,_,_,_,.nil,h=>h
 | _,_,_,_,.cons r t,h=>.cons r (AtS.append t h)
theorem AtS.nones {K:Fg}{ρ:Loc}{H:Hp}:∀n,AtS K ρ H (List.replicate n none) (List.replicate n none)
 | 0=>.nil
 | n+1=>.cons (fun d e=>nomatch e) (AtS.nones n)
theorem zbem {K:Fg}{N:List Str}{np:Nat}{b:SS}{vs:List V}{H:Hp}{Q:VK}{E:XK}(h:spD K np (fnD N.length np b) vs H Q E):tDS K b {nx:=fun _ H'=>Q .non H',rt:=Q} (L2.start N vs) H:=by
 obtain⟨ρ,ds,st,v,st',a,rp,e,hl,q⟩:=h;have hd:ds.length=np:=by rw[← a.length];exact hl
 unfold fnD at e;rw[if_pos hd] at e;have as:AtS K ρ H (ds.map Option.some++List.replicate (N.length - np) none) (L2.start N vs):=by
  unfold L2.start;rw[hl];exact a.some.append (.nones _)
 refine⟨ρ,ds.map Option.some++List.replicate (N.length - np) none,st,?_⟩;cases hr:b (ds.map Option.some++List.replicate (N.length - np) none) st with
 | stuck=>rw[hr] at e;cases e
 | exc z w=>rw[hr] at e;cases e
 | ok fl st1 =>
  rw[hr] at e;cases fl with
  | ret w =>
   dsimp only at e;cases e;exact⟨.ret v,st',as,rp,rfl,fun ρ' H' u x r t=>q ρ' H' u x r t⟩
  | nx σ =>
   dsimp only at e;cases e;exact⟨.nx σ,st',as,rp,rfl,fun ρ' H' τ x r t=>q ρ' H' .non x r .non⟩
  | brk σ=>cases e
  | ct σ=>cases e
theorem zbek {P:Program}{w:World}{K:Fg}{mg:Str->Option Value}{base h:Heap}{x:Str}{st:Stmt}{N ps:List Str}{k:Nat}{b:SS}(T:TopF K x st)(X:K.In h)(G:h.Ns mainGlobals mg)(S:FnScope N ps (defScope st))
  (bd:∀(kV doc pm:Value) (an:Option Addr) (cdv ct:Value) (us:List Value),us.length=ps.length->bindArgs (W.fnOf x x (defArgs st) (defBody st) (defScope st) .none kV doc pm an cdv ct) ⟨us,[]⟩=pure (ps.zip us))
  (hbody:∀(f:Addr) (cdv:Value) (A:Around) (outer:List Env) (s:Shared) (H:Hp) (E:XK),Room k (A.deeper (envOfC x (defScope st) s.heap.objs.size f cdv)) ->
   DSs (cxOf CX0 P w K mg base N x (defScope st) f cdv A outer s H E).nox (defBody st) b):CalD P w K mg base x (k+1) ps (fnD N.length ps.length b) :=
 zuj T X G S bd (fun vs H Q E hh=>by obtain⟨ρ,ds,st,v,st',a,rp,e,hl,q⟩:=hh;exact hl) fun f cdv A outer s H vs Q E hr hh=>⟨_,hbody f cdv A outer s H E hr,zbem hh⟩
noncomputable def spLaw (K:Fg):Sp:=fun vs H Q _=>∃(a:Addr) (ns:List Int),vs=[.ref a]/\SqL K H a (ns.map V.int)/\ns.length<=63/\∀H',Q (.bl true) H'
theorem zbhc {P:Program}{w:World}{K:Fg}{mg:Str->Option Value}{base:Heap}{st:Stmt}{N ps:List Str}{k:Nat}{b:SS}{f:Addr}{fd:FuncData}(F:Fun K "law" "law" st f fd)(S:FnScope N ps (defScope st))(hp:ps.length=1)
  (hbody:∀(cdv:Value) (A:Around) (outer:List Env) (s:Shared) (H:Hp) (E:XK), Room k (A.deeper (envOfC "law" (defScope st) s.heap.objs.size f cdv)) ->
   DSs (cxOf CX0 P w K mg base N "law" (defScope st) f cdv A outer s H E).nox (defBody st) b)
  (holds:∀ns:List Int,ns.length<=63->∃st',fnD N.length 1 b [.scr (ns.map .int)] []=.ok (.bl true) st'):FnOk P w K mg base CX0 (k+1) f fd ps (spLaw K):=by
 refine F.ok S (fun vs H Q E hh=>?_) (fun cdv A outer s H vs Q E hr hh=>⟨_,hbody cdv A outer s H E hr,?_⟩)
 ·obtain⟨a,ns,rfl,_⟩:=hh;exact hp.symm
 ·obtain⟨a,ns,rfl,hS,hl,q⟩:=hh;obtain⟨st',e⟩:=holds ns hl;refine zbem (np:=1) (E:=E) ⟨⟨[],[]⟩,[.scr (ns.map .int)],[],_,st',.cons (.scr ?_ (zkb ns)) .nil,⟨rfl,fun n m a e _=>by simp at e,fun n a o e _=>by simp at e,fun a h=>(by cases h),fun n o e _=>by simp at e⟩,e,rfl,fun ρ' H' u x r t=>?_⟩
  ·rcases hS with h | h
   ·exact .inl ⟨h,by simp[Out]⟩
   ·exact .inr fun H'=>.inr h
  ·cases t;exact q H'
end Dd
namespace Dd
open PySem L2
noncomputable def oNeg:D->Store->Res D:=fun x st=>match x with
 | .int i=>.ok (.int (-i)) st
 | _=>.stuck
noncomputable def sStuck:SS:=fun _ _=>.stuck
noncomputable def tru (st:Store):D->Option Bool
 | .non=>some false
 | .bl b=>some b
 | .int i=>some (i != 0)
 | .tup xs=>some !xs.isEmpty
 | d=>(asL st d).map fun xs=>!xs.isEmpty
noncomputable def eTru (f:SE):ST:=fun σ st=>(f σ st).bind fun v st1=>match tru st1 v with
 | some b=>.ok b st1
 | none=>.stuck
theorem zlb {K:Fg}{ρ:Loc}{H:Hp}{ds:List D}{vs:List V}(h:AtAll K ρ H ds vs):ds.isEmpty=vs.isEmpty:=by
 cases h<;>rfl
theorem zbfk {K:Fg}{ρ:Loc}{st:Store}{H:Hp}(rp:Rep K ρ st H){d:D}{u:V}{b:Bool}(a:At K ρ H d u)(e:tru st d=some b):TruV K u H b:=by
 unfold tru at e;split at e
 ·cases a;cases e;exact rfl
 ·cases a;cases e;exact rfl
 ·cases a;cases e;exact rfl
 ·cases e;cases a with
  | tup h1 h2 h3=>exact .inr (.inl ⟨_,SqT.of h1,by rw[zlb h3]⟩)
 ·obtain⟨xs,h0,rfl⟩:=xcs.mp e;obtain⟨p,vs,rfl,h1,h2⟩:=zgl rp a h0;exact .inl ⟨_,SqL.of h1,by rw[zlb h2]⟩
section
variable {X:Cx}{a b c e:Expr}{f f' f'':SE}{pos:Pos}{sm:Stmt}
theorem zblq (h:DE X a f):DE X (.UnaryOp .USub a pos) (eUn oNeg f):=zfp (zbkn zbfh h) fun τ H Q hq0=>by
 obtain⟨ρ,σ,st,v,st',at',rp,e,q⟩:=hq0;obtain⟨x,st1,e1,e⟩:=zc e;refine⟨ρ,σ,st,x,st1,at',rp,e1,fun ρ1 H1 u x1 rp1 a1=>?_⟩;cases x<;>try (cases e;done)
 cases e;cases a1;exact⟨_,rfl,q _ _ _ x1 rp1 (.int _)⟩
theorem zyd {op op':CmpOp}{r r':R2}{g g':D->D->Store->Res D}(ho:OpR X (compareOp op) r)(ho':OpR X (compareOp op') r')(hr:OpD X.K g r)(hr':OpD X.K g' r')(ha:DE X a f)(hb:DE X b f')(hc:DE X c f'')
 (hm:lastMarks [op,op'] [b,c]=false:=by with_unfolding_all rfl):DT X (.Compare a [op,op'] [b,c] pos) (eB (eChain g g' f f' f'')):=zzq (zwl ho ho' ha hb hc hm) fun τ H Q h=>zbei hr hr' _ _ _ (eB_t _ _ _ h)
theorem zyh:DSt X sm sStuck:=fun aA s σ H E I ⟨ρ,σ',st,fl,st',a,rp,e,q⟩=>by cases e
theorem zbht (h:DE X a f)(he:∀whole,isTrue a X.env whole=(do let v ← whole;standAt a.pos;holding [v] (truthy v)):=by intro _;rfl):DT X a (eTru f):=zzq (zqf h he) fun τ H Q hq0=>by
 obtain⟨ρ,σ,st,v,st',at',rp,e,q⟩:=hq0;obtain⟨x,st1,e1,e⟩:=zc e;refine⟨ρ,σ,st,x,st1,at',rp,e1,fun ρ1 H1 u x1 rp1 a1=>?_⟩;split at e
 ·rename_i bb hb;cases e;exact⟨_,zbfk rp1 a1 hb,q _ _ x1 rp1⟩
 ·cases e
end
end Dd
namespace Dd
open PySem PySem.Spec PyProof.Rows L2
noncomputable def numF:Int->List D->List D
 | _,[]=>[]
 | n,x::xs=>.tup [.int n,x]::numF (n+1) xs
noncomputable def iEnum (f:SE):SA:=fun σ st=>(f σ st).bind fun x st1=>match x with
 | .tup xs=>.ok (numF 1 xs) st1
 | _=>.stuck
theorem zmf:∀{xs:List D} {n:Int} {i:Nat} {d:D},(numF n xs)[i]?=some d->∃x,xs[i]?=some x/\d=.tup [.int (n+i),x]
 | [],_,_,_,h=>by simp[numF] at h
 | x::xs,n,0,d,h=>by
  simp[numF] at h;exact⟨x,rfl,by rw[← h];simp⟩
 | x::xs,n,i+1,d,h=>by
  simp only[numF,xgp] at h;obtain⟨y,h1,h2⟩:=zmf h;exact⟨y,by simpa using h1,by rw[h2];congr 3;push_cast;lia⟩
theorem zec:∀{xs:List D} {n:Int},(numF n xs).length=xs.length
 | [],_=>rfl
 | _::xs,n=>by simp[numF,zec (xs:=xs)]
section
variable {X:Cx}{l:Expr}{f:SE}{elts:List Expr}{k j:Nat}{tpos p pos kpos cpos:Pos}
theorem zym (hg:Gl X "enumerate")(hm:X.mg "enumerate"=none)(hl:DE X l f)(he:starEach [l] X.env=[(false, eval l X.env)]:=by rfl) :
  DI X (.Tuple elts k tpos) (.Call (.Name "enumerate" p) [l] [⟨some "start", .Constant (.int 1) j cpos, kpos⟩] pos) (iEnum f):=zbbh (zwr hg hm hl he) fun τ H R hq0=>by
 obtain⟨ρ,σ,st,xs,st',a,rp,e,q⟩:=hq0;obtain⟨x,st1,e1,e⟩:=zc e;refine⟨ρ,σ,st,x,st1,a,rp,e1,fun ρ1 H1 u x1 rp1 a1=>?_⟩;split at e
 ·rename_i ys;cases e;cases a1 with
  | tup h1 h2 h3 =>
   refine⟨_,rfl,⟨_,SqT.of h1⟩,q _ _ _ x1 rp1 ⟨fun ρ2 H2 x2 i d e=>?_,fun ρ2 H2 x2 i h=>?_⟩⟩
   ·obtain⟨z,hz,rfl⟩:=zmf e;obtain⟨v,hv,av⟩:=h3.get hz;refine⟨⟨_,v,SqT.of (x2.out h1 h2).1,hv⟩,fun y H3 hy=>?_⟩;obtain⟨p,hp,rfl,hH⟩:=hy;rw[hH _ _ (SqT.of (x2.out h1 h2).1) hv];refine⟨Ext.new hp _,fun st rp2=>⟨rp2.new hp _,?_⟩⟩;have e3:(1:Int)+(i:Int)=((i+1:Nat):Int):=by push_cast;lia
    rw[e3];exact At.newT rp2 hp (.cons (.int _) (.cons (av.extG x2) .nil))
   ·rw[zec] at h;exact⟨_,SqT.of (x2.out h1 h2).1,by rw[h3.length];exact h⟩
 ·cases e
end
end Dd
namespace Dd
open PySem L2
noncomputable def bInt:List D->Store->Res D:=fun xs st=>match xs with
 | [.int i]=>.ok (.int i) st
 | [.bl k]=>.ok (.int (if k then 1 else 0)) st
 | _=>.stuck
noncomputable def eCompM (it:SA) (k:Nat) (is:List Nat) (bd:SG) (c:ST) (f:SE):SE:=fun σ st=>(it σ st).bind fun xs st1=>if xs.length<=sizeLine then(compF bd c f xs (startD k is σ) st1).bind fun ys st2=>.ok (.ref st2.length) (st2++[.lst ys]) else .stuck
section
variable {X:Cx}{tg iter elt:Expr}{ifs:List Expr}{it:SA}{bd:SG}{c:ST}{f:SE}{N:List Str}{k:Nat}{is:List Nat}{scope:Scope}{pos:Pos}
end
noncomputable def plainE:Expr->Bool
 | .Starred _ _=>false
 | _=>true
theorem zps {e:Expr}{es:List Expr}{env:Env}(h:plainE e=true):starEach (e::es) env=(false,eval e env)::starEach es env:=by
 cases e<;>first | rfl | cases h
theorem zyp {X:Cx}{e:Expr}{es:List Expr}{f:SE}{g:SA}(ha:DE X e f)(hr:DA X es g)(hp:plainE e=true:=by rfl):DA X (e::es) (aCons f g):=zbdy ha hr (zps hp)
noncomputable def bBest (gt:Bool):List D->Store->Res D:=fun xs st=>match xs with
 | [x]=>match (seqOf st x).bind asInts with
  | some (n::ns)=>.ok (.int (bestI gt n ns)) st
  | _=>.stuck
 | _=>.stuck
noncomputable def pairsF:List D->List D->List D
 | x::xs,y::ys=>.tup [x,y]::pairsF xs ys
 | _,_=>[]
noncomputable def iZipT (g:SA):SA:=fun σ st=>(g σ st).bind fun xs st1=>match xs with
 | [.tup a,.tup b]=>.ok (pairsF a b) st1
 | _=>.stuck
section
variable {X:Cx}{a b:Expr}{g:SA}{elts:List Expr}{k:Nat}{tpos p pos:Pos}
end
noncomputable def sSetG (bd:SG) (f:SE):SS:=fun σ st=>(f σ st).bind fun v st1=>match bd v σ with
 | some σ1=>.ok (.nx σ1) st1
 | none=>.stuck
end Dd
namespace Dd
open PySem L2 PyProof.Rows
structure JE (X:Cx) (e:Expr) (f:SE):Prop where out:DE X e f
structure JT (X:Cx) (e:Expr) (f:ST):Prop where out:DT X e f
structure JW (X:Cx) (e:Expr) (f:ST):Prop where out:DW X e f
structure JA (X:Cx) (e:List Expr) (f:SA):Prop where out:DA X e f
structure JS (X:Cx) (s:Stmt) (f:SS):Prop where out:DSt X s f
structure JB (X:Cx) (s:List Stmt) (f:SS):Prop where out:DSs X s f
structure JO (X:Cx) (e:Option Expr) (f:DS->Store->Res (Option Int)):Prop where out:DO X e f
structure JG (X:Cx) (e:Expr) (b:SG):Prop where out:DG X e b
structure JGs (X:Cx) (e:List Expr) (b:List D->DS->Option DS):Prop where out:DGs X e b
structure JI (X:Cx) (tg iter:Expr) (f:SA):Prop where out:DI X tg iter f
structure JIf (X:Cx) (ifs:List Expr) (c:ST):Prop where out:PIf X ifs (tDT X.K c)
structure JC (X:Cx) (op:CmpOp) (a b:Expr) (f:SE):Prop where out:PC X op a b (tD X.K f)
theorem JW.pt {X:Cx}{e:Expr}{t:ST}(h:JW X e t):JT X e t:=⟨PW.pt h.out⟩
section
variable {X:Cx}
theorem zb {e:Expr}{i:Nat}(h:PE X e (tVar i)):JE X e (eVar i):=⟨zblk h⟩
theorem zle {e:Expr}{v:V}{d:D}(h:PE X e (tC v))(k:∀ρ H,At X.K ρ H d v):JE X e (eC d):=⟨zbio h k⟩
theorem zj {i j pos}:JE X (.Constant (.int i) j pos) (eC (.int i)):=⟨zbls⟩
theorem zug {b j pos}:JE X (.Constant (.bool b) j pos) (eC (.bl b)):=⟨d_bl⟩
end
section
variable {X:Cx}{a b c:Expr}{f f' f'':SE}{pos:Pos}
theorem zbm {op:Operator}{r:R2}{g:D->D->Store->Res D}(ho:OpR X (binaryOp op) r)(hr:OpD X.K g r)(ha:JE X a f)(hb:JE X b f'):JE X (.BinOp a op b pos) (eOp g f f'):=⟨d_op ho hr ha.out hb.out⟩
theorem zbee {op:CmpOp}{r:R2}{g:D->D->Store->Res D}(ho:OpR X (compareOp op) r)(hr:OpD X.K g r)(ha:JE X a f)(hb:JE X b f')(hm:behindInMarks op b=false):JE X (.Compare a [op] [b] pos) (eOp g f f'):=⟨zblv ho hr ha.out hb.out hm⟩
theorem zeo {op:CmpOp}{r:R2}{g:D->D->Store->Res D}(ho:OpR X (compareOp op) r)(hr:OpD X.K g r)(ha:JE X a f)(hb:JE X b f')(hm:behindInMarks op b=false):JT X (.Compare a [op] [b] pos) (eB (eOp g f f')):=⟨zbhw ho hr ha.out hb.out hm⟩
end
section
variable {X:Cx}{a b:Expr}{rest:List Expr}{f f':SE}{t t':ST}{pos:Pos}
theorem zyr {op}(h:JE X a f):JE X (.BoolOp op [a] pos) f:=⟨zblo h.out⟩
theorem zyz (ha:JE X a f)(hb:JE X (.BoolOp .And (b::rest) pos) f'):JE X (.BoolOp .And (a::b::rest) pos) (eAnd f f'):=⟨zblw ha.out hb.out⟩
theorem zbln (ha:JE X a f)(hb:JE X (.BoolOp .Or (b::rest) pos) f'):JE X (.BoolOp .Or (a::b::rest) pos) (eOr f f'):=⟨d_or ha.out hb.out⟩
theorem zys (ha:JE X a f):JE X (.UnaryOp .Not a pos) (eNot f):=⟨zblp ha.out⟩
theorem zod {op}(h:JT X a t)(hop:op=.And\/op=.Or):JW X (.BoolOp op [a] pos) t:=⟨zbhs h.out hop⟩
theorem ztz (ha:JT X a t)(hb:JW X (.BoolOp .Or (b::rest) pos) t'):JW X (.BoolOp .Or (a::b::rest) pos) (bOr t t'):=⟨zblh ha.out hb.out⟩
theorem zfk (ha:JT X a t):JT X (.UnaryOp .Not a pos) (bNot t):=⟨zbhu ha.out⟩
theorem zblu {c:Expr}(hc:JT X c t)(ha:JE X a f)(hb:JE X b f'):JE X (.IfExp c a b pos) (eIf t f f'):=⟨d_if hc.out ha.out hb.out⟩
end
section
variable {X:Cx}{e:Expr}{es:List Expr}{f:SE}{g:SA}{pos:Pos}
theorem zd :JA X [] aNil:=⟨zbif⟩
theorem zij {x1}(h:JA X es g):JE X (.Tuple es x1 pos) (eTup g):=⟨zbll h.out⟩
theorem zbij (h:JA X es g):JE X (.List es pos) (eLst g):=⟨zblr h.out⟩
theorem zep (h:JA X es g):JE X (.List es pos) (eLstM g):=⟨zbii h.out⟩
end
section
variable {X:Cx}{a b e:Expr}{f f':SE}{pos:Pos}{lo hi:Option Expr}{l h:DS->Store->Res (Option Int)}
theorem zhu :JO X none pNone:=⟨zbdp⟩
theorem zht (he:JE X e f):JO X (some e) (pSome f):=⟨zbdo he.out⟩
theorem zib (ha:JE X a f)(hb:JE X b f')(hs:PlainIx b):JE X (.Subscript a b pos) (eOp oIx f f'):=⟨d_ix ha.out hb.out hs⟩
theorem zbdz {p2:Pos}(he:JE X e f)(hl:JO X lo l)(hu:JO X hi h):JE X (.Subscript e (.Slice lo hi none p2) pos) (eSl f l h):=⟨d_sl he.out hl.out hu.out⟩
end
section
variable {X:Cx}{x:Str}{p pos:Pos}{e:Expr}{es:List Expr}{f:SA}{id T:String}{r:List V->Hp->VK->Prop}{g:List D->Store->Res D}
theorem zp (hc:CallR X (.builtin id) r)(hr:CaD X.K g r)(hg:Gl X x)(hm:X.mg x=none)(hv:bootBuiltins x=some (.builtin id))(ha:JA X (e::es) f)(hn:x≠"__name__":=by decide)(hdb:(x==("__debug__" : Str))=false:=by decide)(he:starEach (e::es) X.env=(false, eval e X.env)::starEach es X.env:=by rfl)(hpl:(backTo pos (starEach es X.env)).any (·.1)=false:=by rfl):JE X (.Call (.Name x p) (e::es) [] pos) (eCall g f):=⟨zbef hc hr hg hm hv ha.out hn hdb he hpl⟩
theorem zkl (hc:CallR X (.type T) r)(hr:CaD X.K g r)(hg:Gl X x)(hm:X.mg x=none)(hv:bootBuiltins x=some (.type T))(ha:JA X (e::es) f)(hn:x≠"__name__":=by decide)(hdb:(x==("__debug__" : Str))=false:=by decide)(he:starEach (e::es) X.env=(false, eval e X.env)::starEach es X.env:=by rfl)(hpl:(backTo pos (starEach es X.env)).any (·.1)=false:=by rfl):JE X (.Call (.Name x p) (e::es) [] pos) (eCall g f):=⟨zyx hc hr hg hm hv ha.out hn hdb he hpl⟩
end
section
variable {X:Cx}{a b c o i e value f':Expr}{f g h:SE}{pos pos' apos cpos:Pos}
theorem zrf :JE X (.Dict [] [] pos) eDNew:=⟨zbim⟩
theorem zbbt (hu:X.A.units+1 < cLine)(hi:JE X i g)(ho:JE X o f):JC X .In i o (eOp (oDIn false) g f):=⟨zbks hu hi.out ho.out⟩
theorem zblt {op:CmpOp}{t:SE}(h:JC X op a b t)(h1:behindInMarks op b=false:=by first | exact nobehind _ (by decide) (by decide) | rfl):JE X (.Compare a [op] [b] pos) t:=⟨d_in h.out h1⟩
theorem zbhv {op:CmpOp}{t:SE}(h:JC X op a b t)(h1:behindInMarks op b=false:=by first | exact nobehind _ (by decide) (by decide) | rfl):JT X (.Compare a [op] [b] pos) (eB t):=⟨zbli h.out h1⟩
theorem zbec (hu:X.A.units+1 < cLine)(ho:JE X o f)(hi:JE X i g)(hs:NoSl i):JE X (.Subscript o i pos) (eOp oDGet f g):=⟨zbin hu ho.out hi.out hs⟩
theorem zyw (hu:X.A.units + 1 < cLine)(ho:JE X o f)(he:JE X e g)(hf:JE X f' h)(m:M2 X o "get" apos e f' cpos):JE X (.Call (.Attribute o "get" apos) [e, f'] [] cpos) (eDGet2 f g h):=⟨zbed hu ho.out he.out hf.out m⟩
theorem zbeb (hu:X.A.units + 1 < cLine)(ho:JE X o f)(he:JE X e g)(m:M1 X o "pop" apos e cpos):JE X (.Call (.Attribute o "pop" apos) [e] [] cpos) (eDPop f g):=⟨zbil hu ho.out he.out m⟩
theorem zmk (hu:X.A.units+1 < cLine)(ho:JE X o f)(hi:JE X i g)(hv:JE X value h)(hs:swapsWith value (some (.Subscript o i pos')) pos.line X.env=pure false):JS X (.Assign [.Subscript o i pos'] value pos) (sDPut f g h):=⟨zbdm hu ho.out hi.out hv.out hs⟩
end
section
variable {X:Cx}{o e i value:Expr}{es:List Expr}{f g h:SE}{ga:SA}{pos apos cpos:Pos}
theorem zee (ho:JE X o f)(ha:JA X (e::es) ga)(hbase:attributeBase o "append" X.env (eval o X.env)=eval o X.env:=by rfl)(hfew:((backTo cpos (starEach (e::es) X.env)).all (fun x=>!x.1)&&(backToKw cpos (keywordEach [] X.env)).all (fun x=>x.1.isSome)
 && decide ((e::es).length + ([]:List Keyword).length + (if([]:List Keyword).isEmpty then 0 else 1) < 30))=true:=by rfl) (hline:(apos.endLine==cpos.line)=true:=by rfl) (hs:starEach (e::es) X.env=(false, eval e X.env)::starEach es X.env:=by rfl) (hplain:(backTo cpos (starEach es X.env)).any (·.1)=false:=by rfl):JE X (.Call (.Attribute o "append" apos) (e::es) [] cpos) (eAppend f ga):=⟨zyy ho.out ha.out hbase hfew hline hs hplain⟩
theorem zkk (ho:JE X o f)(ha:JA X (e::es) ga)(hbase:attributeBase o "extend" X.env (eval o X.env)=eval o X.env:=by rfl)(hfew:((backTo cpos (starEach (e::es) X.env)).all (fun x=>!x.1)&&(backToKw cpos (keywordEach [] X.env)).all (fun x=>x.1.isSome)
 && decide ((e::es).length + ([]:List Keyword).length + (if([]:List Keyword).isEmpty then 0 else 1) < 30))=true:=by rfl) (hline:(apos.endLine==cpos.line)=true:=by rfl) (hs:starEach (e::es) X.env=(false, eval e X.env)::starEach es X.env:=by rfl) (hplain:(backTo cpos (starEach es X.env)).any (·.1)=false:=by rfl):JE X (.Call (.Attribute o "extend" apos) (e::es) [] cpos) (eExtend f ga):=⟨zyu ho.out ha.out hbase hfew hline hs hplain⟩
theorem zyt (ho:JE X o f):JE X o (eFz f):=⟨d_fz ho.out⟩
end
section
variable {X:Cx}{e c o i value:Expr}{sm:Stmt}{rest:List Stmt}{f g h:SE}{s t:SS}{b:ST}{pos pos':Pos}
theorem zdb :JB X [] sNx:=⟨zbia⟩
theorem zbc (he:JE X e f):JS X (.Return (some e) pos) (sRet f):=⟨zbhy he.out⟩
theorem zbl (he:JE X e f)(hs:swapsWith e none pos.line X.env=pure false:=by rfl):JS X (.Expr e pos) (sDrop f):=⟨zbdl he.out hs⟩
theorem zw {i:Nat}{x:Str}(hN:X.N.Nodup)(hi:X.N[i]?=some x)(hx:L2.Loc X.env.scope x)(he:JE X e f)(hs:swapsWith e (some (.Name x pos')) pos.line X.env=pure false:=by rfl)(hf:X.fn x=true\/X.env.scope.names.lookup x=some .local:=by first | exact .inl rfl | exact .inr rfl | assumption):JS X (.Assign [.Name x pos'] e pos) (sSet i f):=⟨zbhx hN hi hx he.out hs hf⟩
theorem zf (h1:JS X sm s):JB X [sm] s:=⟨zbhz h1.out⟩
theorem ze (h1:JS X sm s)(h2:JB X rest t):JB X (sm::rest) (sSeq s t):=⟨zbdn h1.out h2.out⟩
theorem zew {a' b':List Stmt}(hc:JT X c b)(ha:JB X a' s)(hb:JB X b' t):JS X (.If c a' b' pos) (sIf b s t):=⟨zblj hc.out ha.out hb.out⟩
theorem zof (he:JE X value h)(ho:JE X o f)(hi:JE X i g)(ha:∀v,assign (.Subscript o i pos') X.env v=(do
 let ov ← holding [v] (eval o X.env)
 let iv ← holding [v,ov] (eval i X.env)
 standAt pos'
 holding [v,ov,iv] (setItem ov iv v)
 release [v,ov,iv] []):=by intro _;rfl) (hs:swapsWithSole [.Subscript o i pos'] value pos.line X.env=pure false:=by rfl) (hw:swappedStores [.Subscript o i pos'] value X.env=pure none:=by rfl) (h1:(assignEach [.Subscript o i pos'] X.env).map (·.2)=[assign (.Subscript o i pos') X.env]:=by rfl):JS X (.Assign [.Subscript o i pos'] value pos) (sSetIx f g h):=⟨zyf he.out ho.out hi.out ha hs hw h1⟩
end
section
variable {X:Cx}{pos:Pos}{e:Expr}{es:List Expr}{t:SG}{u:List D->DS->Option DS}
theorem zm {i:Nat}{x:Str}(hN:X.N.Nodup)(hi:X.N[i]?=some x)(hx:L2.Loc X.env.scope x)(hf:X.fn x=true\/X.env.scope.names.lookup x=some .local:=by first | exact .inl rfl | exact .inr rfl | assumption):JG X (.Name x pos) (gN i):=⟨zbdv hN hi hx hf⟩
theorem zrc :JGs X [] gsNil:=⟨zbdu⟩
theorem zgp (h1:JG X e t)(h2:JGs X es u)(hs:(assignEach (e::es) X.env).map (·.2)=assign e X.env::(assignEach es X.env).map (·.2):=by rfl):JGs X (e::es) (gsCons t u):=⟨zyo h1.out h2.out hs⟩
theorem zvr {k:Nat}{n:Nat}(hc:X.calm=true)(h:JGs X es u)(hn:(assignEach es X.env).length=n:=by rfl)(hst:(assignEach es X.env).findIdx? (·.1)=none:=by rfl):JG X (.Tuple es k pos) (gT n u):=⟨zbie hc h.out hn hst⟩
end
section
variable {X:Cx}{tg l a b:Expr}{f:SE}{g:SA}{p pos:Pos}
theorem zcr (hl:JE X l f):JI X tg l (iSeq f):=⟨zbid hl.out⟩
theorem zcs (hg:Gl X "range")(hm:X.mg "range"=none)(ha:JA X [a] g)(hs:starEach [a] X.env=[(false, eval a X.env)]:=by rfl):JI X tg (.Call (.Name "range" p) [a] [] pos) (iR1 g):=⟨zub hg hm ha.out hs⟩
theorem zfl (hg:Gl X "range")(hm:X.mg "range"=none)(ha:JA X [a, b] g)(hs:starEach [a, b] X.env=[(false, eval a X.env),(false, eval b X.env)]:=by rfl)(hs2:starEach [b] X.env=[(false, eval b X.env)]:=by rfl):JI X tg (.Call (.Name "range" p) [a, b] [] pos) (iR2 g):=⟨zua hg hm ha.out hs hs2⟩
end
section
variable {X:Cx}{tg l:Expr}{f:SE}
theorem zyn (hl:JE X l f):JI X tg l (iDict f):=⟨zbdt hl.out⟩
end
section
variable {X:Cx}{tg iter c:Expr}{body:List Stmt}{it:SA}{bd:SG}{b:SS}{t:ST}{pos:Pos}
theorem zbw (hp:PassesOwn (model X.prog X.w) X.A X.env X.xe)(hc:X.calm=true)(hi:JI X tg iter it)(hg:JG X tg bd)(hb:JB X body b)(hs:∀x,foldedSetIterable iter X.env x=pure x:=by intro _;rfl):JS X (.For tg iter body [] pos) (sFor it bd b):=⟨zbib hp hc hi.out hg.out hb.out hs⟩
theorem zkg (hp:PassesOwn (model X.prog X.w) X.A X.env X.xe)(hc:JT X c t)(hb:JB X body b):JS X (.While c body [] pos) (sWhile t b):=⟨zye hp hc.out hb.out⟩
end
section
variable {X:Cx}{tg iter elt:Expr}{ifs:List Expr}{it:SA}{bd:SG}{c:ST}{f:SE}{N:List Str}{k:Nat}{is:List Nat}{scope:Scope}{pos:Pos}
theorem zfm (hcalm:X.calm=true)(hi:JI X tg iter it)(hg:∀cl C fp s H,JG (cxC X N scope cl C fp s H) tg bd)(hc:∀cl C fp s H,JIf (cxC X N scope cl C fp s H) ifs c)(he:∀cl C fp s H,JE (cxC X N scope cl C fp s H) elt f)(S:CompScope X N k is scope)(hs:∀x,foldedSetIterable iter X.env x=pure x:=by intro _;rfl):JE X (.ListComp elt [⟨tg,iter,ifs,0⟩] scope pos) (eComp it k is bd c f):=⟨zbip hcalm hi.out (fun cl C fp s H=>(hg cl C fp s H).out) (fun cl C fp s H=>(hc cl C fp s H).out) (fun cl C fp s H=>(he cl C fp s H).out) S hs⟩
theorem zyg {i:Nat}{x:Str}{pos' spos:Pos}(hcalm:X.calm=true)(hN:X.N.Nodup)(hxi:X.N[i]?=some x)(hx:L2.Loc X.env.scope x)(hi:JI X tg iter it)(hg:∀cl C fp s H,JG (cxC X N scope cl C fp s H) tg bd)(hc:∀cl C fp s H,JIf (cxC X N scope cl C fp s H) ifs c)(he:∀cl C fp s H,JE (cxC X N scope cl C fp s H) elt f)(S:CompScope X N k is scope)(hsw:swapsWith (.ListComp elt [⟨tg,iter,ifs,0⟩] scope pos) (some (.Name x pos')) spos.line X.env=pure true:=by rfl)(hf:X.fn x=true\/X.env.scope.names.lookup x=some .local:=by first | exact .inl rfl | exact .inr rfl | assumption)(hs:∀x,foldedSetIterable iter X.env x=pure x:=by intro _;rfl):JS X (.Assign [.Name x pos'] (.ListComp elt [⟨tg,iter,ifs,0⟩] scope pos) spos) (sSet i (eComp it k is bd c f)):=⟨zbdk hcalm hN hxi hx hi.out (fun cl C fp s H=>(hg cl C fp s H).out) (fun cl C fp s H=>(hc cl C fp s H).out) (fun cl C fp s H=>(he cl C fp s H).out) S hsw hf hs⟩
theorem zex {X:Cx}:JIf X [] bYes:=⟨zbds⟩
theorem zml {X:Cx}{c:Expr}{t:ST}(h:JT X c t):JIf X [c] t:=⟨zbdr h.out⟩
end
section
variable {X:Cx}{x:Str}{k:Nat}{ps:List Str}{F:DFn}{p pos:Pos}{e:Expr}{es:List Expr}{g:SA}
theorem zt (c:CalD X.prog X.w X.K X.mg X.base x k ps F)(hn:∀ ds st v st', F ds st=.ok v st'->ds.length=ps.length)(hr:Room k X.A)(hg:Gl X x)(ha:JA X (e::es) g)(hdb:(x==("__debug__" : Str))=false:=by decide)(he:starEach (e::es) X.env=(false, eval e X.env)::starEach es X.env:=by rfl)(hpl:(backTo pos (starEach es X.env)).any (·.1)=false:=by rfl):JE X (.Call (.Name x p) (e::es) [] pos) (eCall F g):=⟨zbiq c hn hr hg ha.out hdb he hpl⟩
end
section
theorem zu {P:Program}{w:World}{K:Fg}{mg:Str->Option Value}{base h:Heap}{x:Str}{st:Stmt}{N ps:List Str}{k:Nat}{b:SS}(T:TopF K x st)(X:K.In h)(G:h.Ns mainGlobals mg)(S:FnScope N ps (defScope st))(bd:∀(kV doc pm:Value) (an:Option Addr) (cdv ct:Value) (us:List Value),us.length=ps.length->bindArgs (W.fnOf x x (defArgs st) (defBody st) (defScope st) .none kV doc pm an cdv ct) ⟨us,[]⟩=pure (ps.zip us))(hbody:∀(f:Addr) (cdv:Value) (A:Around) (outer:List Env) (s:Shared) (H:Hp) (E:XK),Room k (A.deeper (envOfC x (defScope st) s.heap.objs.size f cdv)) ->
 JB (cxOf CX0 P w K mg base N x (defScope st) f cdv A outer s H E).nox (defBody st) b):CalD P w K mg base x (k+1) ps (fnD N.length ps.length b):=zbek T X G S bd (fun f cdv A outer s H E rr=>(hbody f cdv A outer s H E rr).out)
end
section
theorem zbcw {P:Program}{w:World}{K:Fg}{mg:Str->Option Value}{base:Heap}{st:Stmt}{N ps:List Str}{k:Nat}{b:SS}{f:Addr}{fd:FuncData}(F:Fun K "law" "law" st f fd)(S:FnScope N ps (defScope st))(hp:ps.length=1)(hbody:∀(cdv:Value) (A:Around) (outer:List Env) (s:Shared) (H:Hp) (E:XK), Room k (A.deeper (envOfC "law" (defScope st) s.heap.objs.size f cdv)) ->
 JB (cxOf CX0 P w K mg base N "law" (defScope st) f cdv A outer s H E).nox (defBody st) b) (holds:∀ ns:List Int, ns.length<=63->∃ st', fnD N.length 1 b [.scr (ns.map .int)] []=.ok (.bl true) st'):FnOk P w K mg base CX0 (k + 1) f fd ps (spLaw K):=zbhc F S hp (fun cdv A outer s H E rr=>(hbody cdv A outer s H E rr).out) holds
end
section
variable {X:Cx}{a b c e:Expr}{f f' f'':SE}{pos:Pos}{sm:Stmt}
theorem zbih (h:JE X a f):JE X (.UnaryOp .USub a pos) (eUn oNeg f):=⟨zblq h.out⟩
theorem zoe {op op':CmpOp}{r r':R2}{g g':D->D->Store->Res D}(ho:OpR X (compareOp op) r)(ho':OpR X (compareOp op') r')(hr:OpD X.K g r)(hr':OpD X.K g' r')(ha:JE X a f)(hb:JE X b f')(hc:JE X c f'')(hm:lastMarks [op,op'] [b,c]=false:=by with_unfolding_all rfl):JT X (.Compare a [op,op'] [b,c] pos) (eB (eChain g g' f f' f'')):=⟨zyd ho ho' hr hr' ha.out hb.out hc.out hm⟩
theorem zkh :JS X sm sStuck:=⟨zyh⟩
theorem zdp (h:JE X a f)(he:∀whole,isTrue a X.env whole=(do let v ← whole;standAt a.pos;holding [v] (truthy v)):=by intro _;rfl):JT X a (eTru f):=⟨zbht h.out he⟩
end
section
variable {X:Cx}{l:Expr}{f:SE}{elts:List Expr}{k j:Nat}{tpos p pos kpos cpos:Pos}
theorem zuc (hg:Gl X "enumerate")(hm:X.mg "enumerate"=none)(hl:JE X l f)(he:starEach [l] X.env=[(false, eval l X.env)]:=by rfl):JI X (.Tuple elts k tpos) (.Call (.Name "enumerate" p) [l] [⟨some "start", .Constant (.int 1) j cpos, kpos⟩] pos) (iEnum f):=⟨zym hg hm hl.out he⟩
end
section
variable {X:Cx}{tg iter elt:Expr}{ifs:List Expr}{it:SA}{bd:SG}{c:ST}{f:SE}{N:List Str}{k:Nat}{is:List Nat}{scope:Scope}{pos:Pos}
end
section
theorem za {X:Cx}{e:Expr}{es:List Expr}{f:SE}{g:SA}(ha:JE X e f)(hr:JA X es g)(hp:plainE e=true:=by rfl):JA X (e::es) (aCons f g):=⟨zyp ha.out hr.out hp⟩
end
section
variable {X:Cx}{a b:Expr}{g:SA}{elts:List Expr}{k:Nat}{tpos p pos:Pos}
end
section
end
end Dd
namespace L2
open PySem PySem.Spec PyProof.Rows
section
variable {prog:Program}{w:World}{A:Around}{R:Result->Shared->Prop}{I:Addr}{fp wr:List Addr}{n:Nat}{P:Nat->Value->Prop}{St:Nat->Heap->Prop}
end
section
variable {prog:Program}{w:World}{A:Around}{E:Value->Shared->Prop}{s:Shared}
end
section
variable {X:Cx}{p pos cpos kpos:Pos}{l:Expr}{t:TA}{d:Int}{j:Nat}
end
section
open PySem.AutoSeq1
end
end L2
namespace Dd
open PySem L2
section
variable {X:Cx}{p pos cpos kpos:Pos}{l:Expr}{f:SA}{d:Int}{j:Nat}
end
section
variable {X:Cx}{o e:Expr}{es:List Expr}{f:SE}{ga:SA}{apos cpos:Pos}
end
end Dd
namespace L2
open PySem PySem.Spec PyProof.Rows
section
variable {X:Cx}{p pos cpos kpos upos:Pos}{l:Expr}{t:TA}{d:Int}{j:Nat}
end
end L2
namespace Dd
open PySem L2 PyProof.Rows
section
variable {X:Cx}{p pos cpos kpos upos:Pos}{l:Expr}{f:SA}{d:Int}{j:Nat}
end
end Dd
namespace L2
open PySem PySem.Spec PyProof.Rows
section
variable {X:Cx}
end
section
open PySem.AutoSeq1
variable (l:Addr)(items:Array Value)(n:Nat)(dd:Option Addr)(sl:Array (Option Value))(x:Int)(u:Tok)
end
end L2
namespace Dd
open PySem L2 PyProof.Rows
end Dd
namespace L2
open PySem PySem.Spec PyProof.Rows PySem.W
section
variable {P:Program}{w:World}{B:Around}{sg:Shared}
end
end L2
namespace Dd
open PySem L2 PyProof.Rows
end Dd
namespace L2
open PySem PySem.Spec PyProof.Rows
end L2
namespace Dd
open PySem L2 PyProof.Rows
section
variable {X:Cx}{o e:Expr}{es:List Expr}{f:SE}{ga:SA}{apos cpos:Pos}
end
end Dd
namespace Dd
variable {α:Type}{motive:List α->Prop}
@[elab_as_elim] theorem len0 (us:List α) (hl:us.length=0) (h:motive []):motive us:=by rw[List.eq_nil_of_length_eq_zero hl];exact h
@[elab_as_elim] theorem lenS {n:Nat} (us:List α) (hl:us.length=n+1) (h:∀a us,us.length=n->motive (a::us)):motive us:=by
 cases us with
 | nil=>cases hl
 | cons a us=>exact h a us (Nat.succ.inj hl)
@[elab_as_elim] theorem len1 (us:List α) (hl:us.length=1) (h:∀a,motive [a]):motive us:=lenS us hl fun a us hl=>len0 us hl (h a)
@[elab_as_elim] theorem len2 (us:List α) (hl:us.length=2) (h:∀a b,motive [a,b]):motive us:=lenS us hl fun a us hl=>len1 us hl (h a)
@[elab_as_elim] theorem len3 (us:List α) (hl:us.length=3) (h:∀a b c,motive [a,b,c]):motive us:=lenS us hl fun a us hl=>len2 us hl (h a)
end Dd
namespace Dd
open PySem L2
end Dd
namespace L2
open PySem PySem.Spec PyProof.Rows
end L2
namespace Dd
open PySem L2 PyProof.Rows
end Dd
namespace L2
open PySem PySem.Spec PyProof.Rows
section
variable {X:Cx}{tg:Expr}
end
end L2
namespace Dd
open PySem L2
section
variable {X:Cx}{tg a b c:Expr}{g:SA}{p pos:Pos}
end
end Dd
namespace Dd
open PySem L2 PyProof.Rows
section
variable {X:Cx}{o e:Expr}{es:List Expr}{f:SE}{ga:SA}{apos cpos:Pos}
end
end Dd
namespace L2
open PySem PySem.Spec PyProof.Rows
variable {X:Cx}{e es:Expr}{te ts:TE}{pos p2:Pos}
end L2
namespace Dd
open PySem L2
section
variable {X:Cx}{e es:Expr}{f g:SE}{pos p2:Pos}
end
end Dd
namespace L2
open PySem PySem.Spec PyProof.Rows
section
variable {prog:Program}{w:World}{A:Around}{E:Value->Shared->Prop}{s:Shared}
end
variable {X:Cx}{e es:Expr}{te ts:TE}{pos p2:Pos}
end L2
namespace Dd
open PySem L2
section
variable {X:Cx}{e es:Expr}{f g:SE}{pos p2:Pos}
end
end Dd
namespace L2
open PySem PySem.Spec PyProof.Rows
end L2
namespace Dd
open PySem L2
end Dd
namespace L2
open PySem PySem.Spec PyProof.Rows
section
variable {X:Cx}{x:Str}{C:Addr}{bmB bmN:List Value}{newId nid initId inN B Bn:String}{e:Expr}{es:List Expr}{ta:TA}{np cpos pos:Pos}
end
section
variable {M:Model}{A:Around}{E:Value->Shared->Prop}{s:Shared}
end
section
variable {P:Program}{w:World}{K:Fg}{mg:Str->Option Value}{base:Heap}{N:List Str}{qual:Str}{scope:Scope}{f:Addr}{cd:Value}{A:Around}{outer:List Env}{s₀:Shared}{H₀:Hp}{E:XK}
end
section
variable {X:Cx}
end
section
variable {X:Cx}{aA pins':List (Addr×Obj)}{σ:St}{H:Hp}{s:Shared}{E:Value->Shared->Prop}{e:Value}
end
section
variable {X:Cx}{body:List Stmt}{x n:Str}{B:Addr}{i:Nat}{b0:Stmt}{suite:List Stmt}{xp hp pos:Pos}{tb:(St->Value->Option Addr->Hp->Prop)->TS}{ts:TS}
end
section
variable {prog:Program}{w:World}{A:Around}{E:Value->Shared->Prop}
end
section
variable {X:Cx}{pos:Pos}
end
section
variable {P:Program}{w:World}{K:Fg}{mg:Str->Option Value}{base:Heap}{N:List Str}{name qual:Str}{params:Arguments}{body:Expr}{scope:Scope}{f:Addr}{cd pm ct:Value}{cl:List (Str×Addr)}{A:Around}{outer:List Env}{s:Shared}{H:Hp}{E:XK}{τ:St}
end
section
variable {X:Cx}{aA:List (Addr×Obj)}{τ:St}{H:Hp}{s:Shared}{c T:Addr}{ps:Array Value}{params:Arguments}{body:Expr}{scope:Scope}{cl:List (Str×Addr)}{pos:Pos}{Q:Value->Shared->Prop}
end
section
variable {X:Cx}
end
section
variable {X:Cx}
end
end L2
namespace L2
open PySem
namespace St
end St
namespace St
/- the leaps meet all places -/
end St
namespace St
/- laid anew -/
end St
namespace St
end St
end L2
namespace L2
open PySem PySem.W PyProof.Rows PySem.Spec
namespace St
section
variable {P:Program}{w:World}{B:Around}{E:Value->Shared->Prop}{s:Shared}{a:Addr}
end
end St
namespace St
section
variable {P:Program}{w:World}{B:Around}{R:Result->Shared->Prop}{it:Addr}{fp wr:List Addr}{G:Array GenState->Array GenState->Prop}{N:Nat}{It:Nat->Value->Prop}{St:Nat->Shared->Prop}
end
section
variable {P:Program}{w:World}{B:Around}{E:Value->Shared->Prop}{s:Shared}
end
end St
namespace St
section
variable {P:Program}{w:World}{B:Around}{E:Value->Shared->Prop}{s:Shared}{a it:Addr}{es:Array (Int×Value)}{ep:Nat}{t:SetTable}{ks:List Nat}
end
end St
end L2
namespace L2
open PySem PySem.Spec PyProof.Rows PySem.W
end L2
namespace Dd
open PySem L2 PyProof.Rows
section
variable {X:Cx}{x y:Str}{p p2 pos pos2:Pos}{e:Expr}{f:SA}{g:List D->Store->Res D}
end
end Dd
namespace L2
open PySem PySem.Spec PyProof.Rows PySem.W
end L2
namespace Dd
open PySem L2 PyProof.Rows
section
variable {X:Cx}{p p2 pos pos2 cpos apos:Pos}{e o:Expr}{f:SA}{g:SE}
end
section
variable {X:Cx}{R:RXT}{e:Expr}{es:List Expr}{f:SE}{g:SA}{sm:Stmt}{rest body:List Stmt}{s t:SS}{pos p:Pos}{x:Str}{k:Nat}{ps:List Str}{F:DFn}
end
section
variable {P:Program}{w:World}{K:Fg}{mg:Str->Option Value}{base h:Heap}{x:Str}{st:Stmt}{N ps:List Str}{k:Nat}{b:SS}
end
section
variable {X:Cx}{R:RXT}{f:Addr}{σL:DS}{τL:L2.St}{g:SE}{x n y:Str}{p pos pos2 xp hp:Pos}{B:Addr}{i:Nat}{cs:List Str}{b0:Stmt}{suite rest:List Stmt}{u t:SS}
end
section
variable {X:Cx}{y:Str}{p pos lp:Pos}{params:Arguments}{body:Expr}{scope stS:Scope}{N NL:List Str}{is:List Nat}{c T fr:Addr}{fdR:FuncData}{stR:Stmt}{x:Str}{k:Nat}{lam:SE}{b:(Store->Res D)->SS}
end
end Dd
namespace L2
open PySem PySem.Spec PyProof.Rows
end L2
namespace Dd
open PySem L2 PyProof.Rows
section
variable {X:Cx}{o e:Expr}{es:List Expr}{f:SE}{ga:SA}{apos cpos:Pos}
end
end Dd
namespace L2
open PySem PySem.Spec PyProof.Rows
end L2
namespace Dd
open PySem L2 PyProof.Rows
section
variable {X:Cx}{R:RXT}{f:Addr}{σL:DS}{τL:L2.St}{g:SE}{x n y:Str}{p pos pos2 xp hp:Pos}{B:Addr}{i:Nat}{cs:List Str}{b0:Stmt}{suite rest:List Stmt}{u t:SS}
end
section
variable {K:Fg}{cv:Value}
end
section
variable {X:Cx}{pos:Pos}{es:List Expr}{u:List D->DS->Option DS}
end
end Dd
namespace L2
open PySem PySem.Spec PyProof.Rows
section
variable {prog:Program}{w:World}{A:Around}{R:Result->Shared->Prop}{I:Addr}{fp wr:List Addr}{n:Nat}{P:Nat->Value->Prop}{St:Nat->Heap->Prop}
end
section
variable {prog:Program}{w:World}{A:Around}{E:Value->Shared->Prop}{s:Shared}
end
section
variable {X:Cx}{p pos cpos kpos:Pos}{l:Expr}{t:TA}{d:Int}{j:Nat}
end
section
variable {X:Cx}
end
end L2
namespace Dd
open PySem L2 PyProof.Rows
section
variable {X:Cx}{p pos cpos kpos:Pos}{l:Expr}{f:SA}{j:Nat}
end
end Dd
namespace L2
open PySem PySem.Spec PyProof.Rows
section
variable {P:Program}{w:World}{A:Around}{E:Value->Shared->Prop}{s:Shared}{K:Fg}{C fI:Addr}{us:List Value}
end
section
variable {X:Cx}{C f:Addr}{fd:FuncData}{ps:List Str}{sp:Sp}{k:Nat}{x:Str}{p pos:Pos}{e:Expr}{es:List Expr}{t:TA}
end
section
variable {X:Cx}{aA:List (Addr×Obj)}{σ:St}{H:Hp}{s:Shared}
end
end L2
namespace L2
open PySem PySem.Spec PyProof.Rows Builtin Builtin.ObjectAttr
section
variable {P:Program}{w:World}{A:Around}{E:Value->Shared->Prop}{s:Shared}{K:Fg}{C fI ea:Addr}{v:Value}
end
end L2
namespace L2
open PySem PySem.Spec PyProof.Rows
section
variable {X:Cx}{aA:List (Addr×Obj)}{σ:St}{H:Hp}{s:Shared}
end
section
variable {P:Program}{w:World}{K:Fg}{mg:Str->Option Value}{base h:Heap}{C fI R:Addr}{xR qual:Str}{st:Stmt}{fd:FuncData}
end
section
variable {X:Cx}
end
section
variable {X:Cx}{e:Expr}{pos:Pos}{te:TE}
end
section
variable {P:Program}{w:World}{K:Fg}{mg:Str->Option Value}{base:Heap}{N:List Str}{qual:Str}{scope:Scope}{f:Addr}{cd:Value}{A:Around}{outer:List Env}{s₀:Shared}{H₀:Hp}{E:XK}
end
end L2
namespace Dd
open PySem L2 PyProof.Rows
section
variable {X:Cx}{R:RXT}{e:Expr}{es:List Expr}{f:SE}{g:SA}{sm:Stmt}{rest body:List Stmt}{s t:SS}{pos p:Pos}{x:Str}
end
section
variable {X:Cx}{R:RXT}{e:Expr}{es:List Expr}{f:SE}{g:SA}{sm:Stmt}{rest body:List Stmt}{s t:SS}{pos p:Pos}{x:Str}
end
end Dd
namespace L2
open PySem PySem.Spec PyProof.Rows
end L2
namespace Dd
open PySem L2 PyProof.Rows
section
variable {X:Cx}{R:RXT}{e:Expr}{es:List Expr}{f:SE}{g:SA}{pos p:Pos}{x:Str}
end
end Dd
namespace L2
open PySem PySem.Spec PyProof.Rows
section
variable {X:Cx}
end
end L2
namespace Dd
open PySem L2 PyProof.Rows
end Dd
namespace L2
open PySem PySem.Spec PyProof.Rows
end L2
namespace Dd
open PySem L2 PyProof.Rows
section
variable {X:Cx}{o e:Expr}{es:List Expr}{f:SE}{ga:SA}{apos cpos:Pos}
end
end Dd
namespace L2
open PySem PySem.Spec PyProof.Rows
noncomputable def rSetD (_K:Fg):V->List V->Hp->VK->Prop:=fun x vs H Q=>∃(a:Addr) (k:Key) (v:V) (kvs:List (Key×V)),x=.ref a/\vs=[kV k,v]/\H a=some (.dK kvs)/\kvs.length < sizeLine /\
 (∀u,valV kvs k=some u->Q u H)/\(valV kvs k=none->Q v (upd H a (.dK (putK kvs k v))))
theorem zbci {X:Cx}:MtR X "dict.setdefault" (rSetD X.K):=by
 intro aA s σ H x xs v us Q I rx rv h;obtain⟨a,k,d,kvs,rfl,rfl,e,hl,q1,q2⟩:=h;cases rx;obtain⟨u,r,rfl,ry,rd⟩:=vals2 rv;obtain⟨z,hd,vs,rel,dd⟩:=zbic I.hok e;have hz:vs.length<=sizeLine:=by rw[← rel.length];exact z
 have hl2:(putK kvs k d).length<=sizeLine:=by have:=zga kvs k d;lia
 refine xjq xjt dd.typeIs F.entry_dict_setdefault (F.args_dict_setdefault_3 _ _ _) (kt_meets_setdefault (mixKind X.prog X.w) a (zxo ry) hd r) ⟨vs,dd,hz,fun w hw=>?_,fun hn h' dd' hs=>?_⟩
 ·have rr:=rel.val k;rw[hw] at rr;cases hk:valV kvs k with
  | none=>rw[hk] at rr;exact rr.elim
  | some y=>rw[hk] at rr;exact⟨y,H,I.tok _,rr,q1 y hk⟩
 ·have hk:valV kvs k=none:=by
   have rr:=rel.val k;rw[hn] at rr;cases hk:valV kvs k with
   | none=>rfl
   | some y=>rw[hk] at rr;exact rr.elim
  have he:∃q,h'.get? a=some q:=let ⟨q,_,_,hq,_⟩:=dd';⟨q,hq⟩
  exact⟨d,_,zld I (by rw[e];exact True.intro) hs he (zyk hl2 hd (rel.put k rd) dd'),rd,q2 hk⟩
noncomputable def rMaxDI (xs:List V) (H:Hp) (Q:VK):Prop:=∃(a:Addr) (n:Int) (ns:List Int) (kvs:List (Key×V)),xs=[.ref a]/\Rd H a (.dK kvs)/\kvs.map (·.1)=(n::ns).map Sum.inl/\Q (.int (bestI true n ns)) H
theorem zrl {X:Cx}(hc:X.calm=true):CallR X (.builtin "max") rMaxDI:=by
 intro aA s σ H xs us Q I r h;obtain⟨a,n,ns,kvs,rfl,e,ek,q⟩:=h;obtain⟨u,rfl,ru⟩:=vals1 r;cases ru;obtain⟨z,hd,vs,rel,dd⟩:=zyj I.hok e;obtain⟨ep,da⟩:∃ep,s.heap.DictAt (mixKind X.prog X.w) a vs ep:=by
  obtain⟨o,es,ep,h⟩:=dd;exact⟨ep,o,es,h⟩
 obtain⟨oI,St,hit,W,st⟩:=(W.kdl_dict (prog:=X.prog) (w:=X.w) (knd:=mixKind X.prog X.w) (kvs:=vs) (ep:=ep) hd).iter X.A.in1 s (I.ok.hd hc) da;have kk:vs.map (·.1)=(n::ns).map Sum.inl:=rel.keys.symm.trans ek;have hln:vs.length=(n::ns).length:=by have:=congrArg List.length kk;simpa using this
 have val:∀i v,(∃k x,vs[i]?=some (k,x)/\(mixKind X.prog X.w).is k v=true)->∃t,v=.int ((n::ns).getD i 0) t:=fun i v hq0=>by
  obtain⟨k,x,hi,hk⟩:=hq0;have h1:(vs.map (·.1))[i]?=some k:=by rw[xck,hi];rfl
  rw[kk,xck] at h1;obtain⟨y,hy,rfl⟩:=xcs.mp h1;rw[xbh,hy];rcases zbg (show keyIs (Sum.inl y) v=true from hk) with⟨i,t,e1,rfl⟩ | ⟨x,t,e1,rfl⟩
  ·cases e1;exact⟨t,rfl⟩
  ·cases e1
 have hlt:a < s.heap.objs.size:=da.lt_size;refine call_max_walk (hit _ _ ⟨s.heap.objs.size,_,_,_,_,St,_,rfl,W,st,fun b hb=>?_,by rw[hln];simp,CmpOf.ints_gt (fun i=>(n::ns).getD i 0) val,fun v h' tk hP hk=>?_⟩)
 ·rw[Heap.size_push];have hb':b=s.heap.objs.size\/b=a:=by simpa using hb
  rcases hb' with z | z
  ·rw[z];exact xjd _
  ·rw[z];exact xiu hlt
 ·obtain⟨t,rfl⟩:=val _ _ hP;rw[hln,zro (by simp)];exact⟨.int (bestI true n ns),H,I.kept (t':=tk) fun b u e=>hk b u (by simp;exact xca (xbt e)) (xbo _ e),⟨_,rfl⟩,q⟩
noncomputable def rPopI (_K:Fg):V->List V->Hp->VK->Prop:=fun x vs H Q=>∃(a:Addr) (k:Key) (v:V) (kvs:List (Key×V)),x=.ref a/\vs=[kV k]/\H a=some (.dK kvs)/\valV kvs k=some v/\Q v (upd H a (.dK (dropK kvs k)))
theorem zbcj {X:Cx}:MtR X "dict.pop" (rPopI X.K):=by
 intro aA s σ H x xs v us Q I rx rv h;obtain⟨a,k,d,kvs,rfl,rfl,e,l,q⟩:=h;cases rx;obtain⟨u,rfl,ry⟩:=rv.one;exact zblm I e ry l (.inl rfl) fun w' s' I' r=>⟨d,_,I',r,q⟩
end L2
namespace Dd
open PySem L2 PyProof.Rows
noncomputable def valI (kvs:List (Int×D)) (k:Int):Option D:=(kvs.find? fun kv=>decide (kv.1=k)).map (·.2)
noncomputable def putI (kvs:List (Int×D)) (k:Int) (v:D):List (Int×D) :=
 if(kvs.any fun kv=>decide (kv.1=k))=true then kvs.map (fun kv=>if kv.1=k then(kv.1,v) else kv) else kvs++[(k,v)]
noncomputable def dropI (kvs:List (Int×D)) (k:Int):List (Int×D):=kvs.filter fun kv=>decide (kv.1≠k)
theorem inlI {a b:Int}:(Sum.inl a:Key)=Sum.inl b↔a=b:=⟨fun e=>Sum.inl.inj e,fun e=>by rw[e]⟩
section
variable {K:Fg}{ρ:Loc}{H:Hp}{kvs:List (Int×D)}{vs:List (Key×V)}
theorem KiAt.val (h:KiAt K ρ H kvs vs)(k:Int):match valI kvs k with
  | some d=>∃v,valV vs (Sum.inl k)=some v/\At K ρ H d v
  | none=>valV vs (Sum.inl k)=none:=by
 induction h with
 | nil=>rfl
 | @cons p q ps qs h t ih =>
  obtain⟨h1,h2⟩:=h;by_cases e:p.1=k
  ·have e1:valI (p::ps) k=some p.2:=by simp[valI,xeb,e]
   rw[e1];exact⟨q.2,zgu (by rw[h1,e]),h2⟩
  ·have e1:valI (p::ps) k=valI ps k:=by simp[valI,xeb,e]
   have e2:valV (q::qs) (Sum.inl k)=valV qs (Sum.inl k):=zgv (by rw[h1,inlI];exact e);rw[e1,e2];exact ih
theorem KiAt.keys (h:KiAt K ρ H kvs vs):vs.map (·.1)=(kvs.map (·.1)).map Sum.inl:=by
 induction h with
 | nil=>rfl
 | @cons p q ps qs h t ih=>rw[xbq,xbq,xbq,ih,h.1]
theorem KiAt.put (h:KiAt K ρ H kvs vs)(k:Int){d:D}{v:V}(a:At K ρ H d v):KiAt K ρ H (putI kvs k d) (putK vs (Sum.inl k) v):=by
 have any:∀{kvs:List (Int×D)} {vs:List (Key×V)},KiAt K ρ H kvs vs->(kvs.any fun kv=>decide (kv.1=k))=(vs.any fun kv=>decide (kv.1=Sum.inl k)):=fun h=>by
  induction h with
  | nil=>rfl
  | @cons p q ps qs h t ih =>
   rw[xgr,xgr,ih,h.1]
   congr 1
   simp only[inlI]
 unfold putI putK;rw[any h];split
 ·rename_i hh;clear hh any
  induction h with
  | nil=>exact .nil
  | @cons p q ps qs h t ih =>
   refine .cons ?_ ih;obtain⟨h1,h2⟩:=h;dsimp only;by_cases e:p.1=k
   ·rw[if_pos e,if_pos (by rw[h1,e])];exact⟨h1,a⟩
   ·rw[if_neg e,if_neg (by rw[h1,inlI];exact e)];exact⟨h1,h2⟩
 ·have app:∀{kvs:List (Int×D)} {vs:List (Key×V)},KiAt K ρ H kvs vs->KiAt K ρ H (kvs++[(k,d)]) (vs++[(Sum.inl k,v)]):=fun h=>by
   induction h with
   | nil=>exact .cons ⟨rfl,a⟩ .nil
   | cons h t ih=>exact .cons h ih
  exact app h
theorem KiAt.drop (h:KiAt K ρ H kvs vs)(k:Int):KiAt K ρ H (dropI kvs k) (dropK vs (Sum.inl k)):=by
 unfold dropI dropK
 induction h with
 | nil=>exact .nil
 | @cons p q ps qs h t ih =>
  by_cases e:p.1=k
  ·rw[xdc (by simp[e]),xdc (by simp[h.1,e])];exact ih
  ·rw[xdd (by simp[e]),xdd (by simp[h.1,e])];exact .cons h ih
theorem KiAt.length (h:KiAt K ρ H kvs vs):kvs.length=vs.length:=xgq h
theorem znp {p:Addr}(g:H p=some (.dK vs)):∀ob u,H p≠some (.frz ob u):=fun ob u z=>by rw[g] at z;cases z
end
noncomputable def eDNewI:SE:=fun _ st=>.ok (.ref st.length) (st++[.dI []])
noncomputable def ePopI (f:SE) (g:SA):SE:=fun σ st=>(f σ st).bind fun x st1=>match x with
 | .ref n=>match st1[n]? with
  | some (.dI _)=>(g σ st1).bind fun ys st2=>match ys,st2[n]? with
   | [.int k],some (.dI kvs)=>match valI kvs k with
    | some v=>.ok v (st2.set n (.dI (dropI kvs k)))
    | none=>.stuck
   | _,_=>.stuck
  | _=>.stuck
 | _=>.stuck
noncomputable def eSetDI (f:SE) (g:SA):SE:=fun σ st=>(f σ st).bind fun x st1=>match x with
 | .ref n=>match st1[n]? with
  | some (.dI _)=>(g σ st1).bind fun ys st2=>match ys,st2[n]? with
   | [.int k,d],some (.dI kvs)=>if kvs.length < sizeLine then(match valI kvs k with
    | some v=>.ok v st2
    | none=>.ok d (st2.set n (.dI (putI kvs k d)))) else .stuck
   | _,_=>.stuck
  | _=>.stuck
 | _=>.stuck
noncomputable def bMaxI:List D->Store->Res D:=fun xs st=>match xs with
 | [.ref n]=>match st[n]? with
  | some (.dI kvs)=>match kvs.map (·.1) with
   | k::ks=>.ok (.int (bestI true k ks)) st
   | []=>.stuck
  | _=>.stuck
 | _=>.stuck
noncomputable def bTruI (f:SE):ST:=fun σ st=>(f σ st).bind fun v st1=>match v with
 | .ref n=>match st1[n]? with
  | some (.dI kvs)=>.ok (!kvs.isEmpty) st1
  | _=>.stuck
 | _=>.stuck
section
variable {X:Cx}{o e a:Expr}{es:List Expr}{f:SE}{ga:SA}{apos cpos pos:Pos}
theorem zyv:JE X (.Dict [] [] pos) eDNewI:=⟨zfp zwx fun τ H Q hq0 p hp=>by
 obtain⟨ρ,σ,st,v,st',a,rp,e,q⟩:=hq0;cases e;obtain⟨E,R⟩:=rp.alloc hp (x:=.dI []) (o:=.dK []) fun E=>⟨[],zx,.nil⟩
 exact q _ _ _ E R (.last rp.len.symm)⟩
theorem zbea (ho:JE X o f)(ha:JA X (e::es) ga)(hbase:attributeBase o "pop" X.env (eval o X.env)=eval o X.env:=by rfl)
  (hfew:((backTo cpos (starEach (e::es) X.env)).all (fun x=>!x.1)&&(backToKw cpos (keywordEach [] X.env)).all (fun x=>x.1.isSome)
   && decide ((e::es).length+([]:List Keyword).length+(if([]:List Keyword).isEmpty then 0 else 1) < 30))=true:=by rfl)
  (hline:(apos.endLine==cpos.line)=true:=by rfl)(hs:starEach (e::es) X.env=(false,eval e X.env)::starEach es X.env:=by rfl)(hplain:(backTo cpos (starEach es X.env)).any (·.1)=false:=by rfl) :
  JE X (.Call (.Attribute o "pop" apos) (e::es) [] cpos) (ePopI f ga):=⟨zfp (zbey xgm xhk F.type_dict_pop zbcj ho.out ha.out hbase hfew hline hs hplain) fun τ H Q hq0=>by
 obtain⟨ρ,σ,st,v,st',a,rp,e,q⟩:=hq0;obtain⟨x,st1,e1,e⟩:=zc e;refine⟨ρ,σ,st,x,st1,a,rp,e1,fun ρ1 H1 u x1 rp1 a1=>?_⟩;split at e
 ·rename_i n;split at e
  ·rename_i kv0 h0;obtain⟨p,rfl,hp,vs0,g0,_⟩:=zdr rp1 a1 h0 (by intro z;cases z);obtain⟨ys,st2,e2,e⟩:=zc e;refine⟨.inr (.inr (.inl ⟨rfl,.inl ⟨_,g0⟩⟩)),ρ1,σ,st1,ys,st2,a.ext x1,rp1,e2,fun ρ2 H2 ws x2 rp2 a2=>?_⟩;split at e
   ·rename_i k kvs hn;split at e
    ·rename_i z hv;cases e;obtain⟨w,rfl,a3⟩:=a2.one;cases a3;obtain⟨p',ep,hp2,vs,g1,g2⟩:=zdr rp2 (a1.ext x2) hn (by intro z;cases z);cases ep;have g4:=g2.val k;rw[hv] at g4;obtain⟨vv,g5,g6⟩:=g4;have E:Ext ρ2 H2 ρ2 (upd H2 p (.dK (dropK vs (Sum.inl k)))):=Ext.wr hp2 (znp g1) _;exact⟨p,Sum.inl k,vv,vs,rfl,rfl,g1,g5,q _ _ _ ((x1.trans x2).trans E) (rp2.wr hp2 (znp g1) ⟨_,zx,(g2.drop k).ext E⟩) (g6.ext E)⟩
    ·cases e
   ·cases e
  ·cases e
 ·cases e⟩
theorem zyq (ho:JE X o f)(ha:JA X (e::es) ga)(hbase:attributeBase o "setdefault" X.env (eval o X.env)=eval o X.env:=by rfl)
  (hfew:((backTo cpos (starEach (e::es) X.env)).all (fun x=>!x.1)&&(backToKw cpos (keywordEach [] X.env)).all (fun x=>x.1.isSome)
   && decide ((e::es).length+([]:List Keyword).length+(if([]:List Keyword).isEmpty then 0 else 1) < 30))=true:=by rfl)
  (hline:(apos.endLine==cpos.line)=true:=by rfl)(hs:starEach (e::es) X.env=(false,eval e X.env)::starEach es X.env:=by rfl)(hplain:(backTo cpos (starEach es X.env)).any (·.1)=false:=by rfl) :
  JE X (.Call (.Attribute o "setdefault" apos) (e::es) [] cpos) (eSetDI f ga):=⟨zfp (zbey xgm xjt F.type_dict_setdefault zbci ho.out ha.out hbase hfew hline hs hplain) fun τ H Q hq0=>by
 obtain⟨ρ,σ,st,v,st',a,rp,e,q⟩:=hq0;obtain⟨x,st1,e1,e⟩:=zc e;refine⟨ρ,σ,st,x,st1,a,rp,e1,fun ρ1 H1 u x1 rp1 a1=>?_⟩;split at e
 ·rename_i n;split at e
  ·rename_i kv0 h0;obtain⟨p,rfl,hp,vs0,g0,_⟩:=zdr rp1 a1 h0 (by intro z;cases z);obtain⟨ys,st2,e2,e⟩:=zc e;refine⟨.inr (.inr (.inl ⟨rfl,.inl ⟨_,g0⟩⟩)),ρ1,σ,st1,ys,st2,a.ext x1,rp1,e2,fun ρ2 H2 ws x2 rp2 a2=>?_⟩;split at e
   ·rename_i k d kvs hn;split at e
    ·rename_i hlen;obtain⟨w,w2,rfl,a3,a4⟩:=a2.two;cases a3;obtain⟨p',ep,hp2,vs,g1,g2⟩:=zdr rp2 (a1.ext x2) hn (by intro z;cases z);cases ep;have g4:=g2.val k;refine⟨p,Sum.inl k,w2,vs,rfl,rfl,g1,by rw[← g2.length];exact hlen,fun y hy=>?_,fun hy=>?_⟩
     ·split at e
      ·rename_i z hv;cases e;rw[hv] at g4;obtain⟨vv,g5,g6⟩:=g4;rw[g5] at hy;cases hy;exact q _ _ _ (x1.trans x2) rp2 g6
      ·rename_i hv;rw[hv] at g4;rw[show valV vs (Sum.inl k)=none from g4] at hy;cases hy
     ·split at e
      ·rename_i z hv;rw[hv] at g4;obtain⟨vv,g5,g6⟩:=g4;rw[g5] at hy;cases hy
      ·rename_i hv;cases e;have E:Ext ρ2 H2 ρ2 (upd H2 p (.dK (putK vs (Sum.inl k) w2))):=Ext.wr hp2 (znp g1) _;exact q _ _ _ ((x1.trans x2).trans E) (rp2.wr hp2 (znp g1) ⟨_,zx,(g2.put k a4).ext E⟩) (a4.ext E)
    ·cases e
   ·cases e
  ·cases e
 ·cases e⟩
theorem zbeq {K:Fg}:CaD K bMaxI rMaxDI:=fun ρ H st xs us z st' Q rp aa e q=>by
 unfold bMaxI at e;split at e
 ·split at e
  ·rename_i n kvs hn;split at e
   ·rename_i k ks hk;cases e;obtain⟨u,rfl,a⟩:=aa.one;obtain⟨p,rfl,hp,vs,g1,g2⟩:=zdr rp a hn (by intro z;cases z);exact⟨p,k,ks,vs,rfl,.inl g1,by rw[g2.keys,hk],q _ _ _ (.refl _ _) rp (.int _)⟩
   ·cases e
  ·cases e
 ·cases e
theorem zyb (h:JE X a f)(he:∀whole,isTrue a X.env whole=(do let v ← whole;standAt a.pos;holding [v] (truthy v)):=by intro _;rfl):JT X a (bTruI f):=⟨zzq (zqf h.out he) fun τ H Q hq0=>by
 obtain⟨ρ,σ,st,v,st',at',rp,e,q⟩:=hq0;obtain⟨x,st1,e1,e⟩:=zc e;refine⟨ρ,σ,st,x,st1,at',rp,e1,fun ρ1 H1 u x1 rp1 a1=>?_⟩;split at e
 ·rename_i n;split at e
  ·rename_i kvs hn;cases e;obtain⟨p,rfl,hp,vs,g1,g2⟩:=zdr rp1 a1 hn (by intro z;cases z);have ee:kvs.isEmpty=vs.isEmpty:=by
    have:=g2.length;cases kvs<;>cases vs<;>simp at this ⊢
   exact⟨_,.inr (.inr ⟨vs,g1,by rw[ee]⟩),q _ _ x1 rp1⟩
  ·cases e
 ·cases e⟩
end
end Dd
namespace L2
open PySem PySem.Spec PyProof.Rows
end L2
namespace Dd
open PySem L2 PyProof.Rows
end Dd
namespace Dd
open PySem L2
noncomputable def zeg:DFn:=fnD 5 2 (sSeq (sSet 2 (eC (.int 0)))
 (sSeq (sIf (eB (eOp oLtT (eVar 1) (eCall bLen (aCons (eVar 0) aNil)))) (sSet 2 (eCall bAbs (aCons (eOp oIx (eVar 0) (eVar 1)) aNil))) sNx)
 (sSeq (sSet 3 (eOp oAdd (eOp oMulI (eC (.int 7919)) (eVar 1)) (eC (.int 17))))
 (sSeq (sFor (iR1 (aCons (eCall bMin2 (aCons (eCall bLen (aCons (eVar 0) aNil)) (aCons (eC (.int 60)) aNil))) aNil)) (gN 4) (sSet 3 (eOp oMod (eOp oAdd (eOp oAdd (eOp oMulI (eVar 3) (eC (.int 48271))) (eOp oMod (eOp oIx (eVar 0) (eVar 4)) (eC (.int 2147483647)))) (eVar 4)) (eC (.int 2147483629)))))
 (sSeq (sIf (eB (eOp oLtT (eVar 2) (eOp oPow (eC (.int 10)) (eC (.int 18))))) (sSet 2 (eC (.int 0))) sNx)
 (sRet (eLstM (aCons (eVar 2) (aCons (eVar 3) aNil)))))))))
noncomputable def zdd:DFn:=fnD 5 2 (sSeq (sIf (eB (eOp oGt (eOp oIx (eVar 0) (eC (.int 0))) (eC (.int 0)))) (sSeq (sSet 2 (eOp oMod (eOp oIx (eVar 0) (eC (.int 0))) (eVar 1)))
 (sSeq (sSetIx (eVar 0) (eC (.int 0)) (eOp oFdiv (eOp oIx (eVar 0) (eC (.int 0))) (eVar 1)))
 (sRet (eVar 2)))) sNx)
 (sSeq (sSet 3 (eC (.int 0)))
 (sSeq (sSet 4 (eC (.int 1)))
 (sSeq (sWhile (eB (eOp oLtT (eVar 4) (eVar 1))) (sSeq (sSetIx (eVar 0) (eC (.int 1)) (eOp oMod (eOp oAdd (eOp oMulI (eOp oIx (eVar 0) (eC (.int 1))) (eC (.int 48271))) (eC (.int 7919))) (eC (.int 2147483647))))
 (sSeq (sSet 3 (eOp oAdd (eOp oMulI (eVar 3) (eC (.int 1073741789))) (eOp oMod (eOp oMulI (eOp oFdiv (eOp oIx (eVar 0) (eC (.int 1))) (eC (.int 8))) (eC (.int 69621))) (eC (.int 1073741789)))))
 (sSet 4 (eOp oMulI (eVar 4) (eC (.int 1073741789)))))))
 (sRet (eOp oMod (eVar 3) (eVar 1)))))))
noncomputable def zik:DFn:=fnD 2 2 (sIf (eB (eOp (oDIn false) (eVar 1) (eVar 0))) (sDrop (eDPop (eVar 0) (eVar 1))) (sDPut (eVar 0) (eVar 1) (eC (.bl true))))
noncomputable def zez:SS:=(sDPut (eVar 1) (eVar 2) (eNot (eDGet2 (eVar 1) (eVar 2) (eC (.bl false)))))
noncomputable def zcu:DFn:=fnD 3 1 (sSeq (sSet 1 eDNew)
 (sSeq (sFor (iSeq (eVar 0)) (gN 2) zez)
 (sRet (eCall bTuple (aCons (eCall bSorted (aCons (eComp (iDict (eVar 1)) 1 [1] (gN 0) (eTru (eOp oDGet (eVar 1) (eVar 0))) (eVar 0)) aNil)) aNil)))))
noncomputable def zch:SS:=(sIf (bOr (bNot (eTru (eCall bIsinst (aCons (eVar 2) (aCons (eC (.ty "tuple")) aNil))))) (eTru (eCall (bAny false) (aCons (eComp (iSeq (eVar 2)) 1 [] (gN 0) bYes (eOr (eNot (eCall bIsinst (aCons (eVar 0) (aCons (eC (.ty "int")) aNil)))) (eCall bIsinst (aCons (eVar 0) (aCons (eC (.ty "bool")) aNil))))) aNil)))) (sRet (eC (.bl false))) sNx)
noncomputable def zbt:DFn:=fnD 3 2 (sSeq (sIf (bOr (bNot (eTru (eCall bIsinst (aCons (eVar 0) (aCons (eC (.ty "tuple")) aNil))))) (eB (eOp oNe (eVar 0) (eVar 1)))) (sRet (eC (.bl false))) sNx)
 (sSeq (sFor (iSeq (eVar 0)) (gN 2) zch)
 (sRet (eC (.bl true)))))
noncomputable def zdo:SS:=(sDPut (eVar 1) (eVar 2) (eC (.bl true)))
noncomputable def zdc:DFn:=fnD 3 1 (sSeq (sSet 1 eDNew)
 (sSeq (sFor (iSeq (eVar 0)) (gN 2) zdo)
 (sRet (eVar 1))))
noncomputable def zea:DFn:=fnD 2 2 (sRet (eOp oEq (eOp oAndI (eVar 0) (eVar 1)) (eVar 1)))
noncomputable def zcg:SS:=(sIf (eTru (eCall zea (aCons (eOp oSub (eOp oSub (eVar 1) (eVar 3)) (eC (.int 1))) (aCons (eOp oSub (eVar 0) (eOp oMulI (eC (.int 2)) (eVar 3))) aNil)))) (sDrop (eAppend (eVar 2) (aCons (eIf (eB (eOp oGt (eVar 3) (eC (.int 0)))) (eTup (aCons (eOp oSub (eOp oAdd (eVar 0) (eVar 1)) (eVar 3)) (aCons (eVar 3) aNil))) (eTup (aCons (eOp oAdd (eVar 0) (eVar 1)) aNil))) aNil))) sNx)
noncomputable def zbk:DFn:=fnD 4 2 (sSeq (sSet 2 (eLstM aNil))
 (sSeq (sFor (iR1 (aCons (eOp oAdd (eOp oFdiv (eVar 0) (eC (.int 2))) (eC (.int 1))) aNil)) (gN 3) zcg)
 (sRet (eCall bSorted (aCons (eVar 2) aNil)))))
noncomputable def zba:DFn:=fnD 4 2 (sSeq (sSet 2 (eSl (eVar 0) pNone (pSome (eVar 1))))
 (sSeq (sSet 3 (eSl (eVar 0) (pSome (eOp oAdd (eVar 1) (eC (.int 2)))) pNone))
 (sRet (eComp (iSeq (eCall zbk (aCons (eOp oIx (eVar 0) (eVar 1)) (aCons (eOp oIx (eVar 0) (eOp oAdd (eVar 1) (eC (.int 1)))) aNil)))) 1 [3,2] (gN 0) bYes (eOp oAdd (eOp oAdd (eVar 2) (eVar 0)) (eVar 1))))))
noncomputable def zbf:DFn:=fnD 1 1 (sRet (eAnd (eCall bIsinst (aCons (eVar 0) (aCons (eC (.ty "int")) aNil))) (eNot (eCall bIsinst (aCons (eVar 0) (aCons (eC (.ty "bool")) aNil))))))
noncomputable def zcl:DFn:=fnD 2 2 (sRet (eAnd (eCall bIsinst (aCons (eVar 1) (aCons (eC (.ty "tuple")) aNil))) (eAnd (eCall (bAny true) (aCons (eComp (iSeq (eVar 1)) 1 [] (gN 0) bYes (eCall zbf (aCons (eVar 0) aNil))) aNil)) (eOp (oDIn false) (eVar 1) (eVar 0)))))
noncomputable def zbu:DFn:=fnD 2 2 (sRet (eOp oLtT (eVar 0) (eOp oMulI (eC (.int 2)) (eVar 1))))
noncomputable def zbn:DFn:=fnD 2 2 (sSeq (sIf (bOr (bNot (eTru (eCall zbf (aCons (eVar 1) aNil)))) (bNot (eB (eChain oLe oLtT (eC (.int 0)) (eVar 1) (eOp oSub (eCall bLen (aCons (eVar 0) aNil)) (eC (.int 1))))))) (sRet (eC (.bl false))) sNx)
 (sRet (eCall zbu (aCons (eOp oIx (eVar 0) (eVar 1)) (aCons (eOp oIx (eVar 0) (eOp oAdd (eVar 1) (eC (.int 1)))) aNil)))))
noncomputable def zcv:SS:=(sDrop (eCall zik (aCons (eVar 0) (aCons (eVar 3) aNil))))
noncomputable def zcf:DFn:=fnD 4 3 (sSeq (sIf (bNot (eTru (eCall zcl (aCons (eVar 0) (aCons (eVar 1) aNil))))) sStuck sNx)
 (sSeq (sIf (bNot (eTru (eCall zbn (aCons (eVar 1) (aCons (eVar 2) aNil))))) sStuck sNx)
 (sSeq (sDrop (eCall zik (aCons (eVar 0) (aCons (eVar 1) aNil))))
 (sFor (iSeq (eCall zba (aCons (eVar 1) (aCons (eVar 2) aNil)))) (gN 3) zcv))))
noncomputable def zhz:DFn:=fnD 1 1 (sRet (eComp (iR1 (aCons (eOp oSub (eCall bLen (aCons (eVar 0) aNil)) (eC (.int 1))) aNil)) 1 [0] (gN 0) (eTru (eCall zbn (aCons (eVar 1) (aCons (eVar 0) aNil)))) (eVar 0)))
noncomputable def zey:DFn:=fnD 1 1 (sRet (eCall bSum (aCons (eComp (iEnum (eVar 0)) 2 [] (gT 2 (gsCons (gN 0) (gsCons (gN 1) gsNil))) bYes (eOp oMulI (eVar 0) (eVar 1))) aNil)))
noncomputable def zer:SS:=(sIf (eB (eOp oEq (eOp oAndI (eOp oSub (eOp oSub (eVar 1) (eVar 3)) (eC (.int 1))) (eOp oSub (eVar 0) (eOp oMulI (eC (.int 2)) (eVar 3)))) (eOp oSub (eVar 0) (eOp oMulI (eC (.int 2)) (eVar 3))))) (sDrop (eAppend (eVar 2) (aCons (eSl (eTup (aCons (eOp oSub (eOp oAdd (eVar 0) (eVar 1)) (eVar 3)) (aCons (eVar 3) aNil))) pNone (pSome (eOp oAdd (eC (.int 1)) (eCall bMin2 (aCons (eVar 3) (aCons (eC (.int 1)) aNil)))))) aNil))) sNx)
noncomputable def zcm:DFn:=fnD 4 2 (sSeq (sSet 2 (eLstM aNil))
 (sSeq (sFor (iR1 (aCons (eOp oAdd (eOp oFdiv (eVar 0) (eC (.int 2))) (eC (.int 1))) aNil)) (gN 3) zer)
 (sRet (eFz (eVar 2)))))
noncomputable def zct:SS:=(sSeq (sSet 5 (eComp (iR1 (aCons (eOp oSub (eCall bLen (aCons (eVar 4) aNil)) (eC (.int 1))) aNil)) 1 [4] (gN 0) (eB (eOp oLtT (eOp oIx (eVar 1) (eVar 0)) (eOp oMulI (eC (.int 2)) (eOp oIx (eVar 1) (eOp oAdd (eVar 0) (eC (.int 1))))))) (eVar 0)))
 (sIf (eB (eOp oEq (eVar 5) (eLst aNil))) (sDrop (eAppend (eVar 2) (aCons (eVar 4) aNil))) (sSeq (sSet 6 (eOp oIx (eVar 5) (eUn oNeg (eC (.int 1)))))
 (sDrop (eExtend (eVar 3) (aCons (eComp (iSeq (eCall zcm (aCons (eOp oIx (eVar 4) (eVar 6)) (aCons (eOp oIx (eVar 4) (eOp oAdd (eVar 6) (eC (.int 1)))) aNil)))) 1 [4,6] (gN 0) bYes (eOp oAdd (eOp oAdd (eSl (eVar 1) pNone (pSome (eVar 2))) (eVar 0)) (eSl (eVar 1) (pSome (eOp oAdd (eVar 2) (eC (.int 2)))) pNone))) aNil))))))
noncomputable def zeb:SS:=(sSeq (sSet 3 (eLstM aNil))
 (sSeq (sFor (iSeq (eVar 1)) (gN 4) zct)
 (sSet 1 (eCall zcu (aCons (eFz (eVar 3)) aNil)))))
noncomputable def zce:DFn:=fnD 7 1 (sSeq (sSet 1 (eCall zcu (aCons (eVar 0) aNil)))
 (sSeq (sSet 2 (eLstM aNil))
 (sSeq (sWhile (eB (eOp oGt (eCall bLen (aCons (eVar 1) aNil)) (eC (.int 0)))) zeb)
 (sRet (eCall zcu (aCons (eFz (eVar 2)) aNil))))))
noncomputable def zbd:SS:=(sDrop (eExtend (eVar 3) (aCons (eComp (iSeq (eOp oIx (eVar 1) (eOp oSub (eVar 2) (eVar 4)))) 1 [4] (gN 0) bYes (eOp oAdd (eTup (aCons (eVar 1) aNil)) (eVar 0))) aNil)))
noncomputable def zci:SS:=(sSeq (sSet 3 (eLstM aNil))
 (sSeq (sFor (iR2 (aCons (eC (.int 1)) (aCons (eOp oAdd (eVar 2) (eC (.int 1))) aNil))) (gN 4) zbd)
 (sDrop (eAppend (eVar 1) (aCons (eCall zce (aCons (eFz (eVar 3)) aNil)) aNil)))))
noncomputable def zbe:DFn:=fnD 5 1 (sSeq (sSet 1 (eLstM (aCons (eTup (aCons (eTup aNil) aNil)) aNil)))
 (sSeq (sFor (iR2 (aCons (eC (.int 1)) (aCons (eOp oAdd (eVar 0) (eC (.int 1))) aNil))) (gN 2) zci)
 (sRet (eFz (eVar 1)))))
noncomputable def zgi:SS:=(sDrop (eCall zcf (aCons (eVar 2) (aCons (eVar 3) (aCons (eVar 4) aNil)))))
noncomputable def zfn:DFn:=fnD 5 2 (sSeq (sSet 2 (eCall zdc (aCons (eVar 0) aNil)))
 (sSeq (sFor (iSeq (eVar 1)) (gT 2 (gsCons (gN 3) (gsCons (gN 4) gsNil))) zgi)
 (sRet (eCall bTuple (aCons (eCall bSorted (aCons (eVar 2) aNil)) aNil)))))
noncomputable def zbz:DFn:=fnD 2 2 (sDrop (eCall zik (aCons (eSetDI (eVar 0) (aCons (eCall zey (aCons (eVar 1) aNil)) (aCons eDNew aNil))) (aCons (eVar 1) aNil))))
noncomputable def zmy:SS:=(sDrop (eCall zbz (aCons (eVar 1) (aCons (eVar 2) aNil))))
noncomputable def zmx:SS:=(sDrop (eCall zbz (aCons (eVar 1) (aCons (eVar 6) aNil))))
noncomputable def zmw:SS:=(sSeq (sSet 5 (eCall zhz (aCons (eVar 2) aNil)))
 (sIf (eTru (eVar 5)) (sSeq (sDrop (eAppend (eVar 3) (aCons (eTup (aCons (eVar 2) (aCons (eOp oIx (eVar 5) (eC (.int 0))) aNil))) aNil)))
 (sFor (iSeq (eCall zba (aCons (eVar 2) (aCons (eOp oIx (eVar 5) (eC (.int 0))) aNil)))) (gN 6) zmx)) sNx))
noncomputable def zrz:SS:=(sSeq (sSet 4 (ePopI (eVar 1) (aCons (eCall bMaxI (aCons (eVar 1) aNil)) aNil)))
 (sFor (iSeq (eCall bSorted (aCons (eVar 4) aNil))) (gN 2) zmw))
noncomputable def zbeu:DFn:=fnD 7 1 (sSeq (sSet 1 eDNewI)
 (sSeq (sFor (iSeq (eVar 0)) (gN 2) zmy)
 (sSeq (sSet 3 (eLstM aNil))
 (sSeq (sWhile (bTruI (eVar 1)) zrz)
 (sRet (eFz (eVar 3)))))))
noncomputable def zfo:DFn:=fnD 1 1 (sRet (eCall zfn (aCons (eVar 0) (aCons (eCall zbeu (aCons (eVar 0) aNil)) aNil))))
noncomputable def zdq:SS:=(sSeq (sSet 3 (eLstM aNil))
 (sSeq (sFor (iR2 (aCons (eC (.int 1)) (aCons (eOp oAdd (eVar 2) (eC (.int 1))) aNil))) (gN 4) zbd)
 (sDrop (eAppend (eVar 1) (aCons (eCall zfo (aCons (eCall bTuple (aCons (eVar 3) aNil)) aNil)) aNil)))))
noncomputable def zbs:DFn:=fnD 5 1 (sSeq (sSet 1 (eLstM (aCons (eTup (aCons (eTup aNil) aNil)) aNil)))
 (sSeq (sFor (iR2 (aCons (eC (.int 1)) (aCons (eOp oAdd (eVar 0) (eC (.int 1))) aNil))) (gN 2) zdq)
 (sRet (eFz (eVar 1)))))
noncomputable def zcd:DFn:=fnD 1 1 (sSeq (sIf (bOr (bNot (eTru (eCall zbf (aCons (eVar 0) aNil)))) (bNot (eB (eChain oLe oLe (eC (.int 0)) (eVar 0) (eC (.int 16)))))) sStuck sNx)
 (sRet (eOp oIx (eCall zbs (aCons (eVar 0) aNil)) (eVar 0))))
noncomputable def zna:SS:=(sIf (bNot (eTru (eCall zbt (aCons (eCall zcd (aCons (eVar 2) aNil)) (aCons (eVar 3) aNil))))) (sRet (eC (.bl false))) sNx)
noncomputable def zmz:SS:=(sSeq (sSet 2 (eCall zdd (aCons (eCall zeg (aCons (eVar 0) (aCons (eVar 1) aNil))) (aCons (eC (.int 17)) aNil))))
 (sSeq (sSet 3 (eOp oIx (eCall zbe (aCons (eVar 2) aNil)) (eVar 2)))
 (sFor (iR1 (aCons (eC (.int 2)) aNil)) (gN 4) zna)))
noncomputable def zbjl:DFn:=fnD 5 1 (sSeq (sFor (iR1 (aCons (eOp oAdd (eCall bMin2 (aCons (eC (.int 1)) (aCons (eCall bLen (aCons (eVar 0) aNil)) aNil))) (eC (.int 1))) aNil)) (gN 1) zmz)
 (sRet (eC (.bl true))))
noncomputable def RngOk (j:Int):Prop:=-(2 ^ 62)<=j/\j < 2 ^ 62
noncomputable instance (j:Int):Decidable (RngOk j):=by unfold RngOk;infer_instance
theorem rngOk {j:Int}(h1:-1000000000000<=j)(h2:j<=1000000000000):RngOk j:=⟨by lia,by lia⟩
section
variable {σ:DS}{st:Store}
@[simp] theorem eC_v {d:D}:eC d σ st=.ok d st:=rfl
@[simp] theorem zbdh {i:Nat}:eVar i σ st=(match σ[i]? with
 | some (some d)=>.ok d st
 | _=>.stuck):=rfl
@[simp] theorem zbka {g:D->D->Store->Res D} {f f':SE}:eOp g f f' σ st=(f σ st).bind fun x st1=>(f' σ st1).bind fun y st2=>g x y st2:=rfl
@[simp] theorem zbma {g:D->Store->Res D} {f:SE}:eUn g f σ st=(f σ st).bind fun x st1=>g x st1:=rfl
@[simp] theorem zdy {g:List D->Store->Res D} {f:SA}:eCall g f σ st=(f σ st).bind fun xs st1=>g xs st1:=rfl
@[simp] theorem zbet:aNil σ st=.ok [] st:=rfl
@[simp] theorem zgh {f:SE} {g:SA}:aCons f g σ st=(f σ st).bind fun x st1=>(g σ st1).bind fun xs st2=>.ok (x::xs) st2:=rfl
@[simp] theorem eB_v {f:SE}:eB f σ st=(f σ st).bind fun v st1=>(match v with
 | .bl b=>.ok b st1
 | _=>.stuck):=rfl
@[simp] theorem zph {f:SE}:eTru f σ st=(f σ st).bind fun v st1=>(match tru st1 v with
 | some b=>.ok b st1
 | none=>.stuck):=rfl
@[simp] theorem zya {f f':SE}:eAnd f f' σ st=(f σ st).bind fun v st1=>(match v with
 | .bl true=>f' σ st1
 | .bl false=>.ok (.bl false) st1
 | _=>.stuck):=rfl
@[simp] theorem zble {f f':SE}:eOr f f' σ st=(f σ st).bind fun v st1=>(match v with
 | .bl true=>.ok (.bl true) st1
 | .bl false=>f' σ st1
 | _=>.stuck):=rfl
@[simp] theorem zbdi {f:SE}:eNot f σ st=(f σ st).bind fun v st1=>(match v with
 | .bl b=>.ok (.bl (!b)) st1
 | _=>.stuck):=rfl
@[simp] theorem zbjh {f f':ST}:bAnd f f' σ st=(f σ st).bind fun b st1=>if b=true then f' σ st1 else .ok false st1:=rfl
@[simp] theorem zbjd {f f':ST}:bOr f f' σ st=(f σ st).bind fun b st1=>if b=true then .ok true st1 else f' σ st1:=rfl
@[simp] theorem zbep {f:ST}:bNot f σ st=(f σ st).bind fun b st1=>.ok (!b) st1:=rfl
@[simp] theorem zblx:bYes σ st=.ok true st:=rfl
@[simp] theorem zblf {c:ST} {f f':SE}:eIf c f f' σ st=(c σ st).bind fun b st1=>if b=true then f σ st1 else f' σ st1:=rfl
@[simp] theorem zbhp {g:SA}:eTup g σ st=(g σ st).bind fun xs st1=>if xs.length<=sizeLine then .ok (.tup xs) st1 else .stuck:=rfl
@[simp] theorem zbhq {g:SA}:eLst g σ st=(g σ st).bind fun xs st1=>if xs.length<=sizeLine then .ok (.lst xs) st1 else .stuck:=rfl
@[simp] theorem zbdj {g:SA}:eLstM g σ st=(g σ st).bind fun xs st1=>if xs.length<=sizeLine then .ok (.ref st1.length) (st1++[.lst xs]) else .stuck:=rfl
@[simp] theorem zbhr {g g':D->D->Store->Res D} {f f' f'':SE}:eChain g g' f f' f'' σ st=(f σ st).bind fun x st1=>(f' σ st1).bind fun y st2=>(g x y st2).bind fun z st3=>(match z with
 | .bl true=>(f'' σ st3).bind fun w st4=>g' y w st4
 | .bl false=>.ok (.bl false) st3
 | _=>.stuck):=rfl
@[simp] theorem zbkc:eDNew σ st=.ok (.ref st.length) (st++[.dT []]):=rfl
@[simp] theorem zblz:sNx σ st=.ok (.nx σ) st:=rfl
@[simp] theorem zbkj:sBrk σ st=.ok (.brk σ) st:=rfl
@[simp] theorem zpw {f:SE}:sRet f σ st=(f σ st).bind fun v st1=>.ok (.ret v) st1:=rfl
@[simp] theorem zbjq:sRetN σ st=.ok (.ret .non) st:=rfl
@[simp] theorem zup {f:SE}:sDrop f σ st=(f σ st).bind fun _ st1=>.ok (.nx σ) st1:=rfl
@[simp] theorem zbfr {i:Nat} {f:SE}:sSet i f σ st=(f σ st).bind fun v st1=>.ok (.nx (σ.set i (some v))) st1:=rfl
@[simp] theorem zbfs {s t:SS}:sSeq s t σ st=(match s σ st with
 | .ok (.nx σ1) st1=>t σ1 st1
 | r=>r):=rfl
@[simp] theorem zbap {c:ST} {s t:SS}:sIf c s t σ st=(c σ st).bind fun b st1=>if b=true then s σ st1 else t σ st1:=rfl
@[simp] theorem zbfu {i:Nat} {g:D->D->Store->Res D} {f:SE}:sAug i g f σ st=(match σ[i]? with
 | some (some x)=>(f σ st).bind fun y st1=>(g x y st1).bind fun z st2=>.ok (.nx (σ.set i (some z))) st2
 | _=>.stuck):=rfl
@[simp] theorem zwg {it:SA} {bd:SG} {body:SS}:sFor it bd body σ st=(it σ st).bind fun xs st1=>forF bd body xs σ st1:=rfl
@[simp] theorem zbde {f:SE}:iSeq f σ st=(f σ st).bind fun x st1=>(match seqV x with
 | some xs=>.ok xs st1
 | none=>.stuck):=rfl
@[simp] theorem zblb {g:SA}:iR1 g σ st=(g σ st).bind fun xs st1=>(match xs with
 | [.int j]=>if RngOk j then .ok (rng 0 j.toNat) st1 else .stuck
 | _=>.stuck):=rfl
@[simp] theorem zbla {g:SA}:iR2 g σ st=(g σ st).bind fun xs st1=>(match xs with
  | [.int i, .int j]=>if RngOk i/\RngOk j then .ok (rng i (j - i).toNat) st1 else .stuck
  | _=>.stuck):=by
  show(g σ st).bind _=_
  congr 1
  funext xs st1
  split
  · unfold RngOk
    simp only[and_assoc]
  · rename_i h
    first
      | rfl
      | (split
         · rename_i i j
           exact absurd rfl (h i j)
         · rfl)
@[simp] theorem zbjy {f:SE}:iDict f σ st=(f σ st).bind fun x st1=>(match x with
 | .ref n=>(match st1[n]? with
  | some (.dT kvs)=>.ok (rowsD (kvs.map (·.1))) (st1.set n (.fT kvs))
  | _=>.stuck)
 | _=>.stuck):=rfl
@[simp] theorem zhr {it:SA} {k:Nat} {is:List Nat} {bd:SG} {c:ST} {f:SE}:eComp it k is bd c f σ st=(it σ st).bind fun xs st1=>if xs.length<=sizeLine then(compF bd c f xs (startD k is σ) st1).bind fun ys st2=>.ok (.lst ys) st2 else .stuck:=rfl
@[simp] theorem zblg {f:SE}:eFz f σ st=(f σ st).bind fun x st1=>(match x with
 | .ref n=>(match st1[n]? with
  | some (.lst xs)=>.ok (.lst xs) (st1.set n .dead)
  | _=>.stuck)
 | _=>.stuck):=rfl
@[simp] theorem zbjw:pNone σ st=.ok none st:=rfl
@[simp] theorem zbbv {f:SE}:pSome f σ st=(f σ st).bind fun v st1=>(match v with
 | .int i=>.ok (some i) st1
 | _=>.stuck):=rfl
@[simp] theorem zbld {f:SE} {lo hi:DS->Store->Res (Option Int)}:eSl f lo hi σ st=(f σ st).bind fun x st1=>(lo σ st1).bind fun l st2=>(hi σ st2).bind fun h st3=>(match x with
 | .tup xs=>.ok (.tup (cutD xs l h)) st3
 | x=>match asL st3 x with
  | some xs=>.ok (.lst (cutD xs l h)) st3
  | none=>.stuck):=rfl
@[simp] theorem zty {f:SE} {g:SA}:eAppend f g σ st=(f σ st).bind fun x st1=>(match x,asL st1 x with
 | .ref n,some _=>(g σ st1).bind fun ys st2=>(match ys,st2[n]? with
  | [y],some (.lst xs)=>if xs.length < sizeLine then .ok .non (st2.set n (.lst (xs++[y]))) else .stuck
  | _,_=>.stuck)
 | _,_=>.stuck):=rfl
@[simp] theorem ztx {f:SE} {g:SA}:eExtend f g σ st=(f σ st).bind fun x st1=>(match x,asL st1 x with
 | .ref n,some _=>(g σ st1).bind fun ys st2=>(match ys,st2[n]? with
  | [y],some (.lst xs)=>(match asL st2 y with
   | some zs=>if xs.length+zs.length<=sizeLine then .ok .non (st2.set n (.lst (xs++zs))) else .stuck
   | none=>.stuck)
  | _,_=>.stuck)
 | _,_=>.stuck):=rfl
@[simp] theorem zwf {f g h:SE}:sSetIx f g h σ st=(h σ st).bind fun v st1=>(f σ st1).bind fun x st2=>(g σ st2).bind fun y st3=>(match x,y with
 | .ref n,.int k=>(match st3[n]? with
  | some (.lst xs)=>(match ixN xs.length k with
   | some j=>.ok (.nx σ) (st3.set n (.lst (xs.set j v)))
   | none=>.stuck)
  | _=>.stuck)
 | _,_=>.stuck):=rfl
@[simp] theorem zxz {f g h:SE}:eDGet2 f g h σ st=(f σ st).bind fun x st1=>(match pairsOf st1 x with
 | some _=>(g σ st1).bind fun y st2=>(h σ st2).bind fun z st3=>(match pairsOf st3 x,keyOf y with
  | some kvs,some k=>.ok ((valD kvs k).getD z) st3
  | _,_=>.stuck)
 | none=>.stuck):=rfl
@[simp] theorem zbkb {f g:SE}:eDPop f g σ st=(f σ st).bind fun x st1=>(match pairsOf st1 x with
 | some _=>(g σ st1).bind fun y st2=>(match x,keyOf y with
  | .ref n,some k=>(match st2[n]? with
   | some (.dT kvs)=>(match valD kvs k with
    | some v=>.ok v (st2.set n (.dT (dropD kvs k)))
    | none=>.stuck)
   | _=>.stuck)
  | _,_=>.stuck)
 | none=>.stuck):=rfl
@[simp] theorem zuq {f g h:SE}:sDPut f g h σ st=(h σ st).bind fun v st1=>(f σ st1).bind fun x st2=>(g σ st2).bind fun y st3=>(match x,keyOf y with
 | .ref n,some k=>(match st3[n]? with
  | some (.dT kvs)=>if kvs.length < sizeLine then .ok (.nx σ) (st3.set n (.dT (putD kvs k v))) else .stuck
  | _=>.stuck)
 | _,_=>.stuck):=rfl
theorem zbjz {n np:Nat}{b:SS}{ds:List D}:fnD n np b ds st=if ds.length=np then(match b (ds.map some++List.replicate (n - np) none) st with
 | .ok (.ret v) st'=>.ok v st'
 | .ok (.nx _) st'=>.ok .non st'
 | .exc x st'=>.exc x st'
 | _=>.stuck) else .stuck:=rfl
end
section
variable {st:Store}{i j:Int}
@[simp] theorem oI_v {C:Int->Int->Prop} [DecidableRel C] {h:Int->Int->D}:oI C h (.int i) (.int j) st=if C i j then .ok (h i j) st else .stuck:=rfl
@[simp] theorem zbkz:oAdd (.int i) (.int j) st=.ok (.int (i+j)) st:=rfl
@[simp] theorem zbce {a b:List D}:oAdd (.tup a) (.tup b) st=if a.length+b.length<=sizeLine then .ok (.tup (a++b)) st else .stuck:=rfl
@[simp] theorem zbkw:oLtT (.int i) (.int j) st=.ok (.bl (decide (i < j))) st:=rfl
@[simp] theorem zbku:oNeg (.int i) st=.ok (.int (-i)) st:=rfl
@[simp] theorem zhy (ns:List Int):asInts (ns.map .int)=some ns:=by
 induction ns with
 | nil=>rfl
 | cons n ns ih=>rw[xbq,asInts,ih];rfl
@[simp] theorem zbes (l:List (List Int)):asRows (rowsD l)=some l:=by
 induction l with
 | nil=>rfl
 | cons n ns ih =>
  unfold rowsD at ih ⊢;rw[xbq,asRows,zhy,ih];rfl
@[simp] theorem zed (ns:List Int):keyOf (rowD ns)=some ns:=zhy ns
theorem zkj:dataOf st (.int i)=some (.int i):=rfl
@[simp] theorem zbky:oEq (.int i) (.int j) st=.ok (.bl (decide (i=j))) st:=by
 show oEqG false (.int i) (.int j) st=_;unfold oEqG;rw[zkj,zkj];dsimp only;rw[if_pos ⟨rfl,rfl⟩];show Res.ok (D.bl (i==j)) st=_;rw[show(i==j)=decide (i=j) from by rw[xfd];simp]
@[simp] theorem zbkv:oNe (.int i) (.int j) st=.ok (.bl (!decide (i=j))) st:=by
 show oEqG true (.int i) (.int j) st=_;unfold oEqG;rw[zkj,zkj];dsimp only;rw[if_pos ⟨rfl,rfl⟩];show Res.ok (D.bl (!(i==j))) st=_;rw[show(i==j)=decide (i=j) from by rw[xfd];simp]
theorem zog (ns:List Int):toDatas (ns.map .int)=some (dI ns):=by
 induction ns with
 | nil=>rfl
 | cons n ns ih=>rw[xbq,toDatas,ih];rfl
theorem zud (l:List (List Int)):toDatas (rowsD l)=some (l.map dRow):=by
 induction l with
 | nil=>rfl
 | cons n ns ih =>
  unfold rowsD at ih ⊢;rw[xbq,toDatas,ih,toData,zog];rfl
noncomputable abbrev sumD (l:List (List Int)):D:=.tup (rowsD l)
theorem zre (l:List (List Int)):dataOf st (sumD l)=some (.tuple (l.map dRow)):=by
 show(toDatas (rowsD l)).map PyData.tuple=_;rw[zud];rfl
theorem zbcc {neg:Bool}(a b:List (List Int)):oEqG neg (sumD a) (sumD b) st=.ok (.bl (if neg then !decide (a=b) else decide (a=b))) st:=by
 unfold oEqG;rw[zre,zre];dsimp only;rw[if_pos ⟨zhv a,zhv b⟩];have e:PyData.eqv (.tuple (a.map dRow)) (.tuple (b.map dRow))=decide (a=b):=zoj a b;rw[e]
theorem small (n:Nat)(h:n<=1000000):n<=sizeLine:=by rw[xja];lia
theorem smallT (n:Nat)(h:n<=1000000):n < sizeLine:=by rw[xja];lia
end
theorem zvo {bd:SG}{body:SS}(I:Nat->DS->Store->Prop):∀(xs:List D) (k:Nat) (σ:DS) (st:Store),I k σ st ->
  (∀i x σ st,xs[i]?=some x->I (k+i) σ st->∃σ1 σ2 st2,bd x σ=some σ1/\body σ1 st=.ok (.nx σ2) st2/\I (k+i+1) σ2 st2)->∃σ' st',forF bd body xs σ st=.ok (.nx σ') st'/\I (k+xs.length) σ' st'
 | [],k,σ,st,h,_=>⟨σ,st,rfl,h⟩
 | x::xs,k,σ,st,h,s=>by
  obtain⟨σ1,σ2,st2,e1,e2,h2⟩:=s 0 x σ st rfl h;obtain⟨σ',st',e3,h3⟩:=zvo I xs (k+1) σ2 st2 h2 fun i y σ st hy hi=>by
   have:=s (i+1) y σ st (by simpa using hy) (by rw[show k+(i+1)=k+1+i by lia];exact hi);rw[show k+(i+1)+1=k+1+i+1 by lia] at this;exact this
  refine⟨σ',st',?_,by rw[xbv,show k+(xs.length+1)=k+1+xs.length by lia];exact h3⟩;unfold forF;rw[e1];dsimp only;rw[e2];exact e3
theorem zpg {bd:SG}{body:SS}(I:Nat->DS->Store->Prop){xs:List D}{σ:DS}{st:Store}(h0:I 0 σ st)
  (s:∀i x σ st,xs[i]?=some x->I i σ st->∃σ1 σ2 st2,bd x σ=some σ1/\body σ1 st=.ok (.nx σ2) st2/\I (i+1) σ2 st2):∃σ' st',forF bd body xs σ st=.ok (.nx σ') st'/\I xs.length σ' st':=by
 have:=zvo I xs 0 σ st h0 fun i x σ st hx hi=>by
  rw[xed] at hi ⊢;exact s i x σ st hx hi
 rw[xed] at this;exact this
theorem zwi {lo:Int}{n i:Nat}{x:D}(h:(rng lo n)[i]?=some x):i < n/\x=.int (lo+i):=zhg h
theorem zcc (lo:Int)(n:Nat):(rng lo n).length=n:=by simp[rng]
theorem zmm {bd:SG}{c:ST}{f:SE}(I:Nat->List D->DS->Store->Prop):∀(xs:List D) (k:Nat) (acc:List D) (σ:DS) (st:Store),I k acc σ st ->
  (∀i x acc σ st,xs[i]?=some x->I (k+i) acc σ st->∃σ1 b st1,bd x σ=some σ1/\c σ1 st=.ok b st1/\((b=false/\I (k+i+1) acc σ1 st1)\/(b=true/\∃y st2,f σ1 st1=.ok y st2/\I (k+i+1) (acc++[y]) σ1 st2))) ->
  ∃ys σ' st',compF bd c f xs σ st=.ok ys st'/\I (k+xs.length) (acc++ys) σ' st'
 | [],k,acc,σ,st,h,_=>⟨[],σ,st,rfl,by rw[xep];exact h⟩
 | x::xs,k,acc,σ,st,h,s=>by
  have s':∀i y acc σ st,xs[i]?=some y->I (k+1+i) acc σ st->∃σ1 b st1,bd y σ=some σ1/\c σ1 st=.ok b st1/\((b=false/\I (k+1+i+1) acc σ1 st1)\/(b=true/\∃z st2,f σ1 st1=.ok z st2/\I (k+1+i+1) (acc++[z]) σ1 st2)):=fun i y acc σ st hy hi=>by
   have:=s (i+1) y acc σ st (by simpa using hy) (by rw[show k+(i+1)=k+1+i by lia];exact hi);rw[show k+(i+1)+1=k+1+i+1 by lia] at this;exact this
  obtain⟨σ1,b,st1,e1,e2,h2⟩:=s 0 x acc σ st rfl h;rcases h2 with⟨rfl,h2⟩ | ⟨rfl,y,st2,e3,h2⟩
  ·obtain⟨ys,σ',st',e4,h3⟩:=zmm I xs (k+1) acc σ1 st1 h2 s';refine⟨ys,σ',st',?_,by rw[xbv,show k+(xs.length+1)=k+1+xs.length by lia];exact h3⟩;unfold compF;rw[e1];dsimp only;rw[e2];exact e4
  ·obtain⟨ys,σ',st',e4,h3⟩:=zmm I xs (k+1) (acc++[y]) σ1 st2 h2 s';refine⟨y::ys,σ',st',?_,by rw[xbv,show k+(xs.length+1)=k+1+xs.length by lia];rw[xcg] at h3;exact h3⟩;unfold compF;rw[e1];dsimp only;rw[e2];dsimp only[zy];rw[if_pos rfl,e3];dsimp only[zy];rw[e4]
   rfl
theorem zjh {bd:SG}{c:ST}{f:SE}(I:Nat->List D->DS->Store->Prop){xs:List D}{σ:DS}{st:Store}(h0:I 0 [] σ st)
  (s:∀i x acc σ st,xs[i]?=some x->I i acc σ st->∃σ1 b st1,bd x σ=some σ1/\c σ1 st=.ok b st1/\((b=false/\I (i+1) acc σ1 st1)\/(b=true/\∃y st2,f σ1 st1=.ok y st2/\I (i+1) (acc++[y]) σ1 st2))) :
  ∃ys σ' st',compF bd c f xs σ st=.ok ys st'/\I xs.length ys σ' st':=by
 have:=zmm I xs 0 [] σ st h0 fun i x acc σ st hx hi=>by
  rw[xed] at hi ⊢;exact s i x acc σ st hx hi
 rw[xed] at this
 simpa using this
theorem zsc {c:ST}{body:SS}(I:Nat->DS->Store->Prop)(post:DS->Store->Prop){σ:DS}{st:Store}{k:Nat}(h0:I k σ st)(hm:k < wCap)
  (s:∀j σ st,I j σ st->∃b st1,c σ st=.ok b st1/\((b=false/\post σ st1)\/(b=true/\∃i σ2 st2,body σ st1=.ok (.nx σ2) st2/\I i σ2 st2/\i < j))):∃σ' st',sWhile c body σ st=.ok (.nx σ') st'/\post σ' st':=by
 have main:∀n j σ st,I j σ st->j < n->∃σ' st',whileF c body n σ st=.ok (.nx σ') st'/\post σ' st':=by
  intro n
  induction n with
  | zero=>intro j σ st _ h;lia
  | succ n ih =>
   intro j σ st hI hlt;obtain⟨b,st1,e1,h⟩:=s j σ st hI;unfold whileF;rw[e1];dsimp only[zy];rcases h with⟨rfl,h⟩ | ⟨rfl,i,σ2,st2,e2,h2,h3⟩
   ·exact⟨σ,st1,by rw[if_neg (by decide)],h⟩
   ·obtain⟨σ',st',e3,h4⟩:=ih i σ2 st2 h2 (by lia);refine⟨σ',st',?_,h4⟩;rw[if_pos rfl,e2];exact e3
 exact main wCap k σ st h0 hm
section
variable {st:Store}{n:Nat}{xs:List D}{i:Int}
@[simp] theorem zbev:seqOf st (.tup xs)=some xs:=rfl
@[simp] theorem zbew:seqOf st (.scr xs)=some xs:=rfl
@[simp] theorem zbex:seqOf st (.lst xs)=some xs:=rfl
@[simp] theorem zbfn:seqV (.tup xs)=some xs:=rfl
@[simp] theorem zbfp:seqV (.lst xs)=some xs:=rfl
@[simp] theorem zbfo:seqV (.scr xs)=some xs:=rfl
@[simp] theorem zbkf:asL st (.lst xs)=some xs:=rfl
theorem zji (h:st[n]?=some (.lst xs)):asL st (.ref n)=some xs:=by
 unfold asL;dsimp only;rw[h]
theorem zjk (h:st[n]?=some (.lst xs)):seqOf st (.ref n)=some xs:=zji h
theorem zjr {x:D}{d:D}(h:seqOf st x=some xs)(h2:L2.atI xs i=some d):oIx x (.int i) st=.ok d st:=by
 unfold oIx;rw[h];dsimp only;rw[h2]
@[simp] theorem zbje:bLen [.tup xs] st=.ok (.int xs.length) st:=rfl
@[simp] theorem zbjg:bLen [.lst xs] st=.ok (.int xs.length) st:=rfl
@[simp] theorem zbjf:bLen [.scr xs] st=.ok (.int xs.length) st:=rfl
@[simp] theorem zbly:bAbs [.int i] st=.ok (.int (if i < 0 then -i else i)) st:=rfl
@[simp] theorem zbmb {g:Int->Int->Int} {j:Int}:b2I g [.int i,.int j] st=.ok (.int (g i j)) st:=rfl
@[simp] theorem zbjb {ns:List Int}:bSum [rowD ns] st=.ok (.int ns.sum) st:=by
 unfold bSum;simp
@[simp] theorem zbeo:bTuple [.tup xs] st=.ok (.tup xs) st:=rfl
@[simp] theorem zrq:bTuple [.lst xs] st=.ok (.tup xs) st:=rfl
theorem zrp (h:st[n]?=some (.lst xs)):bTuple [.ref n] st=.ok (.tup xs) st:=by
 unfold bTuple;dsimp only;rw[zji h]
theorem zmr {l:List (List Int)}(h:l.length<=1000000):bSorted [.lst (rowsD l)] st=.ok (.lst (rowsD (sortR l))) st:=by
 unfold bSorted;simp[h]
theorem zms {kvs:List (List Int×D)}(h:st[n]?=some (.dT kvs))(hl:kvs.length<=1000000):bSorted [.ref n] st=.ok (.lst (rowsD (sortR (kvs.map (·.1))))) st:=by
 unfold bSorted asL pairsOf;simp[h,hl]
theorem zmu {j:Nat}{d:D}(h:xs[j]?=some d):L2.atI xs (j:Int)=some d:=zrs h
theorem zcx {o:O}(h:n < st.length):(st.set n o)[n]?=some o:=xee h
theorem zh {o:O}(h:st[n]?=some o):n < st.length:=(xbc.mp h).1
theorem zwc {o p:O}:(st.set n o).set n p=st.set n p:=List.set_set _
theorem zbfm {o:O}(h:st[n]?=some o):st.set n o=st:=by
 apply xit;intro i;by_cases e:i=n
 ·subst e;rw[xee (zh h),h]
 ·rw[xbi (xel e)]
end
theorem zeh {n np:Nat}{b:SS}{ds:List D}{st st':Store}{v:D}(h:ds.length=np)(e:b (ds.map some++List.replicate (n - np) none) st=.ok (.ret v) st'):fnD n np b ds st=.ok v st':=by
 rw[zbjz,if_pos h,e]
theorem zbhn {n np:Nat}{b:SS}{ds:List D}{st st':Store}{σ:DS}(h:ds.length=np)(e:b (ds.map some++List.replicate (n - np) none) st=.ok (.nx σ) st'):fnD n np b ds st=.ok .non st':=by
 rw[zbjz,if_pos h,e]
noncomputable abbrev bagO (c x:Int):O:=.lst [.int c,.int x]
noncomputable def BagAt (st:Store) (n:Nat):Prop:=∃c x:Int,st[n]?=some (bagO c x)/\0<=c/\0<=x
structure Drew (st st':Store) (n:Nat):Prop where
 len:st.length<=st'.length
 keep:∀ i, i < st.length->i≠n->st'[i]?=st[i]?
 bag:BagAt st' n
theorem Drew.set {st:Store}{n:Nat}{c x:Int}(h:BagAt st n)(hc:0<=c)(hx:0<=x):Drew st (st.set n (bagO c x)) n:=by
 obtain⟨_,_,e,_⟩:=h;exact⟨by rw[xcm];exact xbg _,fun i _ h2=>xbi (xel h2),c,x,zcx (zh e),hc,hx⟩
theorem zbah {st:Store}{n:Nat}{m:Int}(hb:BagAt st n)(h1:1<=m)(h2:m < 2 ^ 1000) :
  ∃r st',zdd [.ref n,.int m] st=.ok (.int r) st'/\0<=r/\r < m/\Drew st st' n/\st'.length=st.length:=by
 obtain⟨c,x,hn,hc,hx⟩:=id hb;have s0:∀{c x:Int} {st:Store},st[n]?=some (bagO c x)->oIx (.ref n) (.int 0) st=.ok (.int c) st:=fun h=>zjr (zjk h) rfl
 have s1:∀{c x:Int} {st:Store},st[n]?=some (bagO c x)->oIx (.ref n) (.int 1) st=.ok (.int x) st:=fun h=>zjr (zjk h) rfl
 by_cases h0:0 < c
 ·have d1:CDivP c m:=⟨by lia,h2⟩
  have e0:ixN 2 0=some 0:=rfl;refine⟨c % m,st.set n (bagO (c / m) x),zeh rfl ?_,xic _ (by lia),Int.emod_lt_of_pos _ (by lia),Drew.set hb (Int.ediv_nonneg hc (by lia)) hx,xcm⟩;simp[s0 hn,h0,hn,e0,show(0:Int) < m by lia,d1]
 ·have hlen:=zh hn
  have W:=zsc (c:=eB (eOp oLtT (eVar 4) (eVar 1))) (body:=sSeq (sSetIx (eVar 0) (eC (.int 1)) (eOp oMod (eOp oAdd (eOp oMulI (eOp oIx (eVar 0) (eC (.int 1))) (eC (.int 48271))) (eC (.int 7919))) (eC (.int 2147483647))))
   (sSeq (sSet 3 (eOp oAdd (eOp oMulI (eVar 3) (eC (.int 1073741789))) (eOp oMod (eOp oMulI (eOp oFdiv (eOp oIx (eVar 0) (eC (.int 1))) (eC (.int 8))) (eC (.int 69621))) (eC (.int 1073741789)))))
   (sSet 4 (eOp oMulI (eVar 4) (eC (.int 1073741789)))))) (k:=1000) (σ:=[some (.ref n),some (.int m),none,some (.int 0),some (.int 1)]) (st:=st)
   (fun j σ s=>∃c' x' nn rr:Int,σ=[some (.ref n),some (.int m),none,some (.int nn),some (.int rr)]/\s=st.set n (bagO c' x')/\0<=c'/\0<=x'/\0<=nn/\j<=1000/\2 ^ (1000 - j)<=rr)
   (fun σ s=>∃c' x' nn:Int,(∃rr,σ=[some (.ref n),some (.int m),none,some (.int nn),some (.int rr)])/\s=st.set n (bagO c' x')/\0<=c'/\0<=x'/\0<=nn)
   ⟨c,x,0,1,rfl,(zbfm hn).symm,hc,hx,by lia,by lia,by decide⟩ (by decide) (by
    rintro j σ s ⟨c',x',nn,rr,rfl,rfl,a1,a2,a3,a4,a5⟩;have g1:(st.set n (bagO c' x'))[n]?=some (bagO c' x'):=zcx hlen;by_cases hlt:rr < m
    ·have hj:1<=j:=by
      rcases xjz j with z | z
      ·subst z;have a5':(2:Int) ^ 1000<=rr:=a5;lia
      ·exact z
     have e1:ixN 2 1=some 1:=rfl;have m1:CMul x' 48271:=.inr ⟨by decide,by decide⟩;have m2:CMul nn 1073741789:=.inr ⟨by decide,by decide⟩;have m3:CMul rr 1073741789:=.inr ⟨by decide,by decide⟩;have g2:∀y:Int,(st.set n (bagO c' y))[n]?=some (bagO c' y):=fun y=>zcx hlen
     have m4:∀y:Int,CMul y 69621:=fun y=>.inr ⟨by decide,by decide⟩
     have d8:∀y:Int,CDivP y 8:=fun y=>⟨by decide,by decide +kernel⟩
     refine⟨true,st.set n (bagO c' x'),by simp[hlt],.inr ⟨rfl,j - 1,_,st.set n (bagO c' ((x' * 48271+7919) % 2147483647)),?_,⟨c',(x' * 48271+7919) % 2147483647,nn * 1073741789+(x' * 48271+7919) % 2147483647 / 8 * 69621 % 1073741789,rr * 1073741789,rfl,rfl,a1,?_,?_,by lia,?_⟩,by lia⟩⟩
     ·simp[s1 g1,g1,e1,m1,m2,m3,m4,d8,s1 (g2 _)]
     ·exact xic _ (by lia)
     ·have a1:0<=nn * 1073741789:=xky a3 (by lia);have a2:=xic ((x' * 48271+7919) % 2147483647 / 8 * 69621) (show(1073741789:Int)≠0 by lia);lia
     ·have e:(2:Int) ^ (1000 - (j - 1))=2 ^ (1000 - j) * 2:=by
       rw[← Int.pow_succ];congr 1;lia
      rw[e];have hp:(0:Int)<=2 ^ (1000 - j):=Int.pow_nonneg (by decide);lia
    ·exact⟨false,_,by simp[hlt],.inl ⟨rfl,c',x',nn,⟨rr,rfl⟩,rfl,a1,a2,a3⟩⟩)
  obtain⟨σ',st',e,c',x',nn,hσ,hst,k1,k2,k3⟩:=W;obtain⟨rr,rfl⟩:=hσ;subst hst;refine⟨nn % m,st.set n (bagO c' x'),zeh rfl ?_,xic _ (by lia),Int.emod_lt_of_pos _ (by lia),Drew.set hb k1 k2,xcm⟩;simp[s0 hn,h0,e,show(0:Int) < m by lia]
theorem zli {ns:List Int}{j:Nat}(h:j < ns.length):L2.atI (ns.map D.int) (j:Int)=some (.int ns[j]):=zrs (by rw[xck,xbe h];rfl)
theorem zbja {st:Store}{ns:List Int}{i:Nat}(hl:ns.length<=63)(hi:i<=100000):∃c x:Int,0<=c/\0<=x/\zeg [.scr (ns.map .int),.int i] st=.ok (.ref st.length) (st++[bagO c x]):=by
 have cell:∃c:Int,0<=c/\sIf (eB (eOp oLtT (eVar 1) (eCall bLen (aCons (eVar 0) aNil)))) (sSet 2 (eCall bAbs (aCons (eOp oIx (eVar 0) (eVar 1)) aNil))) sNx [some (.scr (ns.map .int)),some (.int i),some (.int 0),none,none] st
   = .ok (.nx [some (.scr (ns.map .int)),some (.int i),some (.int c),none,none]) st:=by
  by_cases h:i < ns.length
  ·have e:oIx (.scr (ns.map .int)) (.int i) st=.ok (.int ns[i]) st:=zjr rfl (zli h);refine⟨if ns[i] < 0 then -ns[i] else ns[i],by split<;>lia,?_⟩;simp[h,e]
  ·exact⟨0,by lia,by simp[h]⟩
 obtain⟨c,hc,ec⟩:=cell;have hmin:(if(60:Int) < (ns.length:Int) then(60:Int) else ns.length).toNat<=ns.length:=by split<;>lia
 have W:=zpg (bd:=gN 4) (body:=sSet 3 (eOp oMod (eOp oAdd (eOp oAdd (eOp oMulI (eVar 3) (eC (.int 48271))) (eOp oMod (eOp oIx (eVar 0) (eVar 4)) (eC (.int 2147483647)))) (eVar 4)) (eC (.int 2147483629))))
  (xs:=rng 0 (if(60:Int) < (ns.length:Int) then(60:Int) else ns.length).toNat) (σ:=[some (.scr (ns.map .int)),some (.int i),some (.int c),some (.int (7919 * i+17)),none]) (st:=st)
  (fun j σ s=>s=st/\∃(mix:Int) (v:Option D),σ=[some (.scr (ns.map .int)),some (.int i),some (.int c),some (.int mix),v]/\0<=mix) ⟨rfl,_,none,rfl,by lia⟩ (by
   rintro j x σ s hx ⟨rfl,mix,v,rfl,hm⟩;obtain⟨hj,rfl⟩:=zwi hx;have hj2:j < ns.length:=by lia
   have e:oIx (.scr (ns.map .int)) (.int (0+j)) s=.ok (.int ns[j]) s:=zjr rfl (by rw[xhn];exact zli hj2);rw[xhn] at e;have m1:CMul mix 48271:=.inr ⟨by decide,by decide⟩;refine⟨_,[some (.scr (ns.map .int)),some (.int i),some (.int c),some (.int ((mix * 48271+ns[j] % 2147483647+j) % 2147483629)),some (.int (0+j))],s,rfl,?_,rfl,_,_,rfl,xic _ (by lia)⟩
   simp[e,m1])
 obtain⟨σ',st',e,rfl,mix,v,rfl,hm⟩:=W;have m0:CMul 7919 (i:Int):=.inl ⟨by decide,by decide⟩;have p0:CPow 10 18:=⟨by decide,by decide,by decide⟩
 have hr:RngOk (if(60:Int) < (ns.length:Int) then(60:Int) else ns.length):=by
  split<;>exact rngOk (by lia) (by lia)
 by_cases hlt:c < 1000000000000000000
 ·refine⟨0,mix,by lia,hm,zeh rfl ?_⟩;have hs:=small 2 (by lia);simp at ec;simp[ec,m0,hr,e,p0,hlt,hs]
 ·refine⟨c,mix,hc,hm,zeh rfl ?_⟩;have hs:=small 2 (by lia);simp at ec;simp[ec,m0,hr,e,p0,hlt,hs]
theorem seqN {s t:SS}{σ σ1:DS}{st st1:Store}{r:Res Fl}(h:s σ st=.ok (.nx σ1) st1)(k:t σ1 st1=r):sSeq s t σ st=r:=by
 rw[zbfs,h];exact k
noncomputable def flipL (ks:List (List Int)) (k:List Int):List (List Int):=if k∈ks then ks.filter (fun x=>decide (x≠k)) else ks++[k]
noncomputable def oddL (l:List (List Int)):List (List Int):=l.foldl flipL []
theorem zbr {ks:List (List Int)}{k x:List Int}:x∈flipL ks k↔(x∈ks/\x≠k)\/(x=k/\k∉ks):=by
 unfold flipL;split
 ·rename_i h;simp[xcw,h]
 ·rename_i h;simp only[xch,xdh];constructor
  ·rintro(z | rfl)
   ·exact .inl ⟨z,fun e=>h (e ▸ z)⟩
   ·exact .inr ⟨rfl,h⟩
  ·rintro(⟨z,_⟩ | ⟨z,_⟩)
   ·exact .inl z
   ·exact .inr z
theorem zck {ks:List (List Int)}{k:List Int}(h:ks.Nodup):(flipL ks k).Nodup:=by
 unfold flipL;split
 ·exact h.filter _
 ·rename_i hk;rw[xhf];exact⟨h,by simp,fun a ha b hb=>by simp at hb;subst hb;exact fun e=>hk (e ▸ ha)⟩
theorem zho (ks:List (List Int))(k:List Int):(flipL ks k).length<=ks.length+1:=by
 unfold flipL;split
 ·exact xfk (xfy _ _)
 ·simp
theorem ziw:∀(l ks:List (List Int)),ks.Nodup->(l.foldl flipL ks).Nodup/\(l.foldl flipL ks).length<=ks.length+l.length/\∀x,x∈l.foldl flipL ks↔(l.count x+if x∈ks then 1 else 0) % 2=1
 | [],ks,h=>⟨h,by simp,fun x=>by by_cases e:x∈ks<;>simp[e]⟩
 | a::l,ks,h=>by
  obtain⟨h1,h2,h3⟩:=ziw l (flipL ks a) (zck h);refine⟨h1,?_,fun x=>?_⟩
  ·have:=zho ks a;rw[xib,xbv];lia
  ·rw[xib,h3 x,List.count_cons];by_cases e:x=a
   ·subst e;by_cases k:x∈ks
    ·have q:x∉flipL ks x:=by rw[zbr];simp[k]
     simp only[q,k,xfl,xfb,xgi]<;>lia
    ·have q:x∈flipL ks x:=by rw[zbr];simp[k]
     simp only[q,k,xfl,xfb,xgi]<;>lia
   ·have e':(a==x)=false:=by simpa using fun z:a=x=>e z.symm
    by_cases k:x∈ks
    ·have q:x∈flipL ks a:=by rw[zbr];simp[k,e]
     simp[q,k,e']
    ·have q:x∉flipL ks a:=by rw[zbr];simp[k,e]
     simp[q,k,e']
theorem zfe (l:List (List Int)):(oddL l).Nodup:=(ziw l [] xfq).1
theorem zfx (l:List (List Int)):(oddL l).length<=l.length:=by have:=(ziw l [] xfq).2.1;simpa [oddL] using this
theorem zme {l:List (List Int)}{x:List Int}:x∈oddL l↔l.count x % 2=1:=by have:=(ziw l [] xfq).2.2 x;simpa [oddL] using this
theorem zfw {a b:List (List Int)}(h1:a.Nodup)(h2:b.Nodup)(h:∀x,x∈a↔x∈b):a.Perm b:=(List.perm_ext_iff_of_nodup h1 h2).mpr h
theorem zin {a b:List (List Int)}(h:a.Perm b):sortR a=sortR b:=zlp ((zn a).trans h) (zlo a)
noncomputable def oddS (l:List (List Int)):List (List Int):=sortR (oddL l)
theorem zbcb {l m:List (List Int)}(h1:m.Nodup)(h:∀x,x∈m↔l.count x % 2=1):sortR m=oddS l:=zin (zfw h1 (zfe l) fun x=>by rw[h,zme])
theorem zxf {l:List (List Int)}{x:List Int}:x∈oddS l↔l.count x % 2=1:=by unfold oddS;rw[(zn _).mem_iff,zme]
theorem zhk {l:List (List Int)}{x:List Int}(h:x∈oddS l):x∈l:=by
 rw[zxf] at h;rcases xjz (l.count x) with z | z
 ·rw[z] at h;cases h
 ·exact List.count_pos_iff.mp z
theorem zky (l:List (List Int)):(oddS l).Nodup:=(zn _).nodup_iff.mpr (zfe l)
noncomputable abbrev trueD (ks:List (List Int)):List (List Int×D):=ks.map fun k=>(k,.bl true)
theorem zjj {ks:List (List Int)}{k:List Int}:valD (trueD ks) k=if k∈ks then some (.bl true) else none:=by
 induction ks with
 | nil=>rfl
 | cons a ks ih =>
  unfold valD trueD at ih ⊢;rw[xbq,xeb];by_cases e:a=k
  ·simp[e]
  ·simp only[xby e];rw[ih];simp[xbr,show ¬ k=a from fun z=>e z.symm]
theorem zrb {ks:List (List Int)}{k:List Int}:dropD (trueD ks) k=trueD (ks.filter fun x=>decide (x≠k)):=by
 unfold dropD trueD;rw[xku]
 rfl
theorem znk {ks:List (List Int)}{k:List Int}(h:k∉ks):putD (trueD ks) k (.bl true)=trueD (ks++[k]):=by
 unfold putD;rw[if_neg]
 ·simp[trueD]
 ·simp only[List.any_map,xkj,not_exists,not_and];intro x hx e;have:x=k:=by simpa using e
  exact h (this ▸ hx)
theorem zjn {st:Store}{n:Nat}{kvs:List (List Int×D)}(h:st[n]?=some (.dT kvs)):pairsOf st (.ref n)=some kvs:=by
 unfold pairsOf;dsimp only;rw[h]
theorem zxb {st:Store}{n:Nat}{kvs:List (List Int×D)}(h:st[n]?=some (.fT kvs)):pairsOf st (.ref n)=some kvs:=by
 unfold pairsOf;dsimp only;rw[h]
theorem zuw {st:Store}{n:Nat}{kvs:List (List Int×D)}{k:List Int}(h:pairsOf st (.ref n)=some kvs):oDIn false (rowD k) (.ref n) st=.ok (.bl (valD kvs k).isSome) st:=by
 unfold oDIn;rw[zed,h]
 rfl
theorem zxg {st:Store}{n:Nat}{kvs:List (List Int×D)}{k:List Int}{v:D}(h:pairsOf st (.ref n)=some kvs)(hv:valD kvs k=some v):oDGet (.ref n) (rowD k) st=.ok v st:=by
 unfold oDGet;rw[zed,h];dsimp only;rw[hv]
theorem znx {st:Store}{n:Nat}{ks:List (List Int)}{k:List Int}(h:st[n]?=some (.dT (trueD ks)))(hl:ks.length<=1000000):zik [.ref n,rowD k] st=.ok .non (st.set n (.dT (trueD (flipL ks k)))):=by
 have e1:=zuw (k:=k) (zjn h);rw[zjj] at e1;by_cases hk:k∈ks
 ·refine zbhn (σ:=[some (.ref n),some (rowD k)]) rfl ?_;rw[if_pos hk] at e1;have e2:valD (trueD ks) k=some (.bl true):=by rw[zjj,if_pos hk]
  have e3:flipL ks k=ks.filter fun x=>decide (x≠k):=by unfold flipL;rw[if_pos hk]
  rw[e3,← zrb];have e4:=zjn h;have e5:=zed k;simp only[rowD,trueD] at *
  simp[e1,e4,e5,h,e2]
 ·refine zbhn (σ:=[some (.ref n),some (rowD k)]) rfl ?_;rw[if_neg hk] at e1;have e3:flipL ks k=ks++[k]:=by unfold flipL;rw[if_neg hk]
  rw[e3,← znk hk];have e5:=zed k;have e6:(trueD ks).length < sizeLine:=by rw[xbd];exact smallT _ hl
  simp only[rowD,trueD] at *
  simp[e1,e5,h,e6];rw[xbd] at e6;exact e6
theorem zca {l:List (List Int)}{i:Nat}{x:D}(h:(rowsD l)[i]?=some x):∃k,l[i]?=some k/\x=rowD k:=by
 unfold rowsD at h;rw[xck] at h;cases e:l[i]? with
 | none=>rw[e] at h;cases h
 | some k=>rw[e] at h;exact⟨k,rfl,(xcp h).symm⟩
theorem zg (l:List (List Int)):(rowsD l).length=l.length:=xbd _
theorem zo {α:Type}{l:List α}{i:Nat}{k:α}(h:l[i]?=some k):l.take (i+1)=l.take i++[k]:=by
 obtain⟨hi,e⟩:=xbc.mp h;rw[xgh hi,e]
theorem zzd (xs:List D)(k:Nat):cutD xs none (some (k:Int))=xs.take k:=by
 unfold cutD;rw[HT.zpx,HT.zuo,List.drop_zero,Nat.sub_zero];rcases Nat.le_total k xs.length with h | h
 ·rw[xdv h]
 ·rw[xhs h,xda,xfs h]
theorem zzf (xs:List D)(k:Nat):cutD xs (some (k:Int)) none=xs.drop k:=by
 unfold cutD;rw[HT.zpx,HT.zuo];rcases Nat.le_total k xs.length with h | h
 ·rw[xdv h,xfs (by rw[xer];exact xbg _)]
 ·rw[xhs h,List.drop_length,List.drop_of_length_le h];simp
theorem zkd (l ks:List (List Int))(h:ks.Nodup):(l.foldl flipL ks).length<=ks.length+l.length:=(ziw l ks h).2.1
theorem zbar {a b:List Int}:(a.map D.int)++(b.map D.int)=(a++b).map D.int:=xdw.symm
theorem zim {st:Store}{n:Nat}{ks:List (List Int)}(h:st[n]?=some (.dT (trueD ks)))(hl:ks.length<=1000000):bSorted [.ref n] st=.ok (.lst (rowsD (sortR ks))) st:=by
 rw[zms h (by rw[xbd];exact hl),xdr]
 congr 2
 exact congrArg (fun l=>rowsD (sortR l)) (List.map_id ks)
end Dd
namespace K07
open PySem L2
noncomputable def oddW (e k:Int):Bool:=decide (V.int (Builtin.bitAnd e k)=V.int k)
theorem zrn (a b:Nat):Builtin.bitAnd (a:Int) (b:Int)=((a &&& b:Nat):Int):=rfl
theorem zxe (a b:Nat):oddW a b=decide (a &&& b=b):=by
 unfold oddW;rw[zrn];by_cases h:a &&& b=b
 ·rw[h];simp
 ·rw[xby h];refine xby fun e=>h ?_
  injection e with e
  exact_mod_cast e
end K07
namespace K23
open PySem L2 K07
noncomputable def rowC (a b c:Int):List Int:=if 0 < c then[a+b - c,c] else[a+b]
noncomputable def rowsL (a b:Int) (n:Nat):List (List Int):=((List.range n).filter fun(c:Nat)=>oddW (b - c - 1) (a - 2 * c)).map fun(c:Nat)=>rowC a b c
theorem znj {a b:Int}{n:Nat}(h:oddW (b - n - 1) (a - 2 * n)=true):rowsL a b (n+1)=rowsL a b n++[rowC a b n]:=by
 unfold rowsL;rw[xhy,xdu,xdw];simp[xjb,h]
theorem zpz {a b:Int}{n:Nat}(h:¬ oddW (b - n - 1) (a - 2 * n)=true):rowsL a b (n+1)=rowsL a b n:=by
 unfold rowsL;rw[xhy,xdu];simp[xjb,h]
theorem zdj (a b:Int)(n:Nat):(rowsL a b n).length<=n:=by
 unfold rowsL;rw[xbd];exact xbb (xfy _ _) (by simp)
end K23
namespace Dd
open PySem L2 K07 K23
theorem zpa {st:Store}{e k:Int}:zea [.int e,.int k] st=.ok (.bl (oddW e k)) st:=by
 refine zeh rfl ?_;have:decide (Builtin.bitAnd e k=k)=oddW e k:=by
  unfold oddW;rw[xfd];simp
 simp[this]
theorem zja {st:Store}{i:Int}:zbf [.int i] st=.ok (.bl true) st:=rfl
theorem zxx {st:Store}{a b:Int}:zbu [.int a,.int b] st=.ok (.bl (decide (a < 2 * b))) st:=by
 refine zeh rfl ?_;have m:CMul 2 b:=.inl ⟨by decide,by decide⟩;simp[m]
theorem zfc (r:List Int):(r.map D.int).length=r.length:=xbd _
theorem zgf {st:Store}{r:List Int}{i:Nat}{x:Int}(h:r[i]?=some x):oIx (rowD r) (.int i) st=.ok (.int x) st:=zjr rfl (zrs (by rw[xck,h];rfl))
theorem zrr {st:Store}{r:List Int}:bLen [rowD r] st=.ok (.int r.length) st:=by show Res.ok (D.int ((r.map D.int).length:Nat)) st=_;rw[xbd]
theorem zic {st:Store}{a b:Int}(ha:1<=a)(ha2:a<=60)(hb:-1000<=b)(hb2:b<=1000):∃g,zbk [.int a,.int b] st=.ok (.lst (rowsD (sortR (rowsL a b (a / 2+1).toNat)))) (st++g):=by
 have W:=zpg (bd:=gN 3) (body:=zcg) (xs:=rng 0 (a / 2+1).toNat) (σ:=[some (.int a),some (.int b),some (.ref st.length),none]) (st:=st++[.lst []])
  (fun i σ s=>(∃v,σ=[some (.int a),some (.int b),some (.ref st.length),v])/\s=st++[.lst (rowsD (rowsL a b i))]) ⟨⟨none,rfl⟩,rfl⟩ (by
   rintro i y σ s hy ⟨⟨v,rfl⟩,rfl⟩;obtain⟨hi,rfl⟩:=zwi hy;have hi2:i<=60:=by lia
   have hl:=zdj a b i;have m:CMul 2 (0+(i:Int)):=.inl ⟨by decide,by decide⟩;have e1:=zpa (st:=st++[.lst (rowsD (rowsL a b i))]) (e:=b - (0+(i:Int)) - 1) (k:=a - 2 * (0+(i:Int)));have hn:(st++[O.lst (rowsD (rowsL a b i))])[st.length]?=some (.lst (rowsD (rowsL a b i))):=by simp
   have hL:=zji hn;have hsz:(rowsD (rowsL a b i)).length < sizeLine:=by rw[zg];exact smallT _ (by lia)
   have s1:=small 1 (by lia);have s2:=small 2 (by lia);refine⟨[some (.int a),some (.int b),some (.ref st.length),some (.int (0+i))],[some (.int a),some (.int b),some (.ref st.length),some (.int (0+i))],st++[.lst (rowsD (rowsL a b (i+1)))],rfl,?_,⟨_,rfl⟩,rfl⟩;unfold zcg;rw[xhn] at *
   by_cases c:oddW (b - i - 1) (a - 2 * i)=true
   ·rw[znj c];rw[c] at e1;by_cases c2:0 < i
    ·have e3:rowC a b i=[a+b - i,(i:Int)]:=by unfold rowC;rw[if_pos (by lia)]
     have hsz':(rowsL a b i).length < sizeLine:=by rw[zg] at hsz;exact hsz
     simp[e1,m,hL,hsz',c2,s2,e3,tru,rowsD]
    ·have c3:i=0:=by lia
     subst c3;have e3:rowC a b 0=[a+b]:=by unfold rowC;rw[if_neg (by lia)]
     have hsz':(rowsL a b 0).length < sizeLine:=by rw[zg] at hsz;exact hsz
     simp at e1 m;simp[e1,m,hL,hsz',s1,e3,tru,rowsD]
   ·have c':oddW (b - i - 1) (a - 2 * i)=false:=by simpa using c
    rw[zpz c];rw[c'] at e1
    simp[e1,m,tru])
 obtain⟨σ',st',e,⟨v,rfl⟩,rfl⟩:=W;rw[zcc] at e;refine⟨[.lst (rowsD (rowsL a b (a / 2+1).toNat))],zeh rfl ?_⟩;have d2:CDivP a 2:=⟨by decide,by decide +kernel⟩
 have hr:RngOk (a / 2+1):=rngOk (by lia) (by lia);have few:(rowsL a b (a / 2+1).toNat).length<=1000000:=by have:=zdj a b (a / 2+1).toNat;lia
 have hn:(st++[O.lst (rowsD (rowsL a b (a / 2+1).toNat))])[st.length]?=some (.lst (rowsD (rowsL a b (a / 2+1).toNat))):=by simp
 have es:bSorted [.ref st.length] (st++[.lst (rowsD (rowsL a b (a / 2+1).toNat))])=.ok (.lst (rowsD (sortR (rowsL a b (a / 2+1).toNat)))) (st++[.lst (rowsD (rowsL a b (a / 2+1).toNat))]):=by
  unfold bSorted;simp[zji hn,few]
 simp[d2,hr,e,es]
noncomputable def slowAt (r:List Int) (p:Nat):Prop:=∃a b:Int,r[p]?=some a/\r[p+1]?=some b/\a < 2 * b
noncomputable instance (r:List Int) (p:Nat):Decidable (slowAt r p) :=
 match h1:r[p]?,h2:r[p+1]? with
 | some a,some b=>if h:a < 2 * b then .isTrue ⟨a,b,h1,h2,h⟩ else .isFalse fun⟨x,y,e1,e2,e3⟩=>by rw[h1] at e1;rw[h2] at e2;cases e1;cases e2;exact h e3
 | none,_=>.isFalse fun⟨x,y,e1,_⟩=>by rw[h1] at e1;cases e1
 | some _,none=>.isFalse fun⟨x,y,_,e2,_⟩=>by rw[h2] at e2;cases e2
theorem zjb {st:Store}{r:List Int}{p:Int}:zbn [rowD r,.int p] st=.ok (.bl (decide (0<=p/\slowAt r p.toNat))) st:=by
 have e1:=zja (st:=st) (i:=p);have e2:=zrr (st:=st) (r:=r);by_cases h:0<=p/\p < r.length - 1
 ·obtain⟨k,rfl⟩:∃k:Nat,p=k:=⟨p.toNat,by lia⟩
  have h1:k < r.length:=by lia
  have h2:k+1 < r.length:=by lia
  have g1:r[k]?=some r[k]:=xbe h1;have g2:r[k+1]?=some r[k+1]:=xbe h2;have e3:=zgf (st:=st) g1;have e4:=zgf (st:=st) g2;rw[xha] at e4;have e5:=zxx (st:=st) (a:=r[k]) (b:=r[k+1]);have e6:(r[k] < 2 * r[k+1])↔slowAt r k:=⟨fun z=>⟨_,_,g1,g2,z⟩,fun⟨a,b,z1,z2,z⟩=>by rw[g1] at z1;rw[g2] at z2;cases z1;cases z2;exact z⟩
  refine zeh rfl ?_;have h3:(k:Int) < r.length - 1:=h.2;simp only[rowD] at *
  generalize D.tup (r.map D.int)=R at *
  simp[e1,e2,e3,h3,tru];simp at e4;simp[e4,e5,e6]
 ·have ns:¬ (0<=p/\slowAt r p.toNat):=fun hq0=>by
   obtain⟨z,a,b,z1,z2,_⟩:=hq0;have:=(xbc.mp z2).1;exact h ⟨z,by lia⟩
  refine zeh rfl ?_;rw[xby ns];simp only[rowD] at *
  generalize D.tup (r.map D.int)=R at *
  by_cases z:0<=p
  ·have z2:¬ p < (r.length:Int) - 1:=fun y=>h ⟨z,y⟩
   simp[e1,e2,z,z2,tru]
  ·simp[e1,e2,z,tru]
noncomputable def exRow (r:List Int) (p:Nat):List (List Int):=(sortR (rowsL (r.getD p 0) (r.getD (p+1) 0) (r.getD p 0 / 2+1).toNat)).map fun two=>r.take p++two++r.drop (p+2)
theorem zhp (r:List Int)(p:Nat):(exRow r p).length<=(r.getD p 0 / 2+1).toNat:=by
 unfold exRow;rw[xbd,zet];exact zdj _ _ _
theorem ziu {a b:Int}{n:Nat}:∀r∈rowsL a b n,r.length<=2:=fun r hr=>by
 unfold rowsL at hr;obtain⟨c,_,rfl⟩:=xcb.mp hr;show(rowC a b c).length<=2;unfold rowC;split<;>simp
theorem znm {st:Store}{a b:List Int}(h:a.length+b.length<=1000000):oAdd (rowD a) (rowD b) st=.ok (rowD (a++b)) st:=by
 rw[zbce,if_pos (by rw[xbd,xbd];exact small _ h),zbar]
theorem zvt (r:List Int)(k:Nat):cutD (r.map .int) none (some (k:Int))=(r.take k).map .int:=by rw[zzd,List.map_take]
theorem zok (r:List Int)(k:Nat):cutD (r.map .int) (some (k:Int)) none=(r.drop k).map .int:=by rw[zzf,List.map_drop]
theorem zen {st:Store}{r:List Int}{p:Nat}(hp:p+1 < r.length)(hl:r.length<=100)(ha:1<=r.getD p 0)(ha2:r.getD p 0<=60)(hb:-1000<=r.getD (p+1) 0)(hb2:r.getD (p+1) 0<=1000) :
  ∃g,zba [rowD r,.int p] st=.ok (.lst (rowsD (exRow r p))) (st++g):=by
 have g1:r[p]?=some (r.getD p 0):=by rw[xbh,xbe (by lia)];rfl
 have g2:r[p+1]?=some (r.getD (p+1) 0):=by rw[xbh,xbe (by lia)];rfl
 generalize hA:r.getD p 0=a at *
 generalize hB:r.getD (p+1) 0=b at *
 obtain⟨g,e⟩:=zic (st:=st) ha ha2 hb hb2;have hL:(sortR (rowsL a b (a / 2+1).toNat)).length<=100:=by
  rw[zet];have:=zdj a b (a / 2+1).toNat;lia
 have W:=zjh (bd:=gN 0) (c:=bYes) (f:=eOp oAdd (eOp oAdd (eVar 2) (eVar 0)) (eVar 1)) (xs:=rowsD (sortR (rowsL a b (a / 2+1).toNat))) (σ:=[none,some (rowD (r.drop (p+2))),some (rowD (r.take p))]) (st:=st++g)
  (fun i acc σ s=>s=st++g/\(∃v,σ=[v,some (rowD (r.drop (p+2))),some (rowD (r.take p))])/\acc=rowsD (((sortR (rowsL a b (a / 2+1).toNat)).take i).map fun two=>r.take p++two++r.drop (p+2))) ⟨rfl,⟨none,rfl⟩,rfl⟩ (by
   rintro i y acc σ s hy ⟨rfl,⟨v,rfl⟩,rfl⟩;obtain⟨two,ht,rfl⟩:=zca hy;have h2:two.length<=2:=ziu two ((zn _).mem_iff.mp (xbs ht));have l1:(r.take p).length<=100:=by rw[xco];lia
   have l2:(r.drop (p+2)).length<=100:=by rw[xer];lia
   have e1:=znm (st:=st++g) (a:=r.take p) (b:=two) (by lia);have e2:=znm (st:=st++g) (a:=r.take p++two) (b:=r.drop (p+2)) (by rw[xbp];lia);refine⟨[some (rowD two),some (rowD (r.drop (p+2))),some (rowD (r.take p))],true,st++g,rfl,rfl,.inr ⟨rfl,rowD (r.take p++two++r.drop (p+2)),st++g,?_,rfl,⟨_,rfl⟩,?_⟩⟩
   ·show(oAdd (rowD (r.take p)) (rowD two) (st++g)).bind _=_;rw[e1];exact e2
   ·rw[zo ht,xdw]
    simp[rowsD])
 obtain⟨ys,σ',st',e2,rfl,_,rfl⟩:=W;rw[zg,xda] at e2;refine⟨g,zeh rfl ?_⟩;have hlen:(rowsD (sortR (rowsL a b (a / 2+1).toNat))).length<=sizeLine:=by rw[zg];exact small _ (by lia)
 have e3:=zgf (st:=st) g1;have e4:=zgf (st:=st) g2;rw[xha] at e4;have c1:=zvt r p;have c2:=zok r (p+2);rw[xha] at c2;refine seqN (σ1:=[some (rowD r),some (.int p),some (rowD (r.take p)),none]) (st1:=st) (by simp[c1]) ?_;refine seqN (σ1:=[some (rowD r),some (.int p),some (rowD (r.take p)),some (rowD (r.drop (p+2)))]) (st1:=st) ?_ ?_
 ·simp at c2;simp[c2]
 ·have ei:iSeq (eCall zbk (aCons (eOp oIx (eVar 0) (eVar 1)) (aCons (eOp oIx (eVar 0) (eOp oAdd (eVar 1) (eC (.int 1)))) aNil))) [some (rowD r),some (.int p),some (rowD (r.take p)),some (rowD (r.drop (p+2)))] st=.ok (rowsD (sortR (rowsL a b (a / 2+1).toNat))) (st++g):=by
   simp only[rowD] at *
   generalize D.tup (r.map D.int)=R at *
   simp at e4;simp[e3,e4,e]
  rw[zpw,zhr,ei,zy,if_pos hlen];show((compF _ _ _ _ [none,some (rowD (r.drop (p+2))),some (rowD (r.take p))] _).bind _).bind _=_;rw[e2];unfold exRow;rw[hA,hB]
  rfl
theorem zlv {st:Store}{l:List (List Int)}(nd:l.Nodup)(hl:l.length<=1000000):zdc [sumD l] st=.ok (.ref st.length) (st++[.dT (trueD l)]):=by
 have W:=zpg (bd:=gN 2) (body:=zdo) (xs:=rowsD l) (σ:=[some (sumD l),some (.ref st.length),none]) (st:=st++[.dT []])
  (fun i σ s=>(∃v,σ=[some (sumD l),some (.ref st.length),v])/\s=st++[.dT (trueD (l.take i))]) ⟨⟨none,rfl⟩,rfl⟩ (by
   rintro i y σ s hy ⟨⟨v,rfl⟩,rfl⟩;obtain⟨k,hk,rfl⟩:=zca hy;have hn:(st++[O.dT (trueD (l.take i))])[st.length]?=some (.dT (trueD (l.take i))):=by simp
   have hi:=(xbc.mp hk).1;have nk:k∉l.take i:=fun z=>by
    have e:(l.take (i+1)).Nodup:=(xkb (i+1) l).nodup nd;rw[zo hk,xhf] at e;exact e.2.2 k z k (by simp) rfl
   have hsz:(trueD (l.take i)).length < sizeLine:=by
    rw[xbd,xco];exact smallT _ (by lia)
   have e5:=zed k;have e6:=znk nk;refine⟨[some (sumD l),some (.ref st.length),some (rowD k)],[some (sumD l),some (.ref st.length),some (rowD k)],st++[.dT (trueD (l.take (i+1)))],rfl,?_,⟨_,rfl⟩,rfl⟩;rw[zo hk,← e6];unfold zdo;simp only[rowD] at *
   rw[zuq];simp only[eC_v,zy,zbdh,xgp,xip,e5,hn,hsz,xfl]
   simp)
 obtain⟨σ',st',e,⟨v,rfl⟩,rfl⟩:=W;rw[zg,xda] at e;refine zeh rfl ?_;refine seqN (σ1:=[some (sumD l),some (.ref st.length),none]) (st1:=st++[.dT []]) (by simp) ?_;refine seqN (σ1:=[some (sumD l),some (.ref st.length),v]) (st1:=st++[.dT (trueD l)]) (by rw[zwg];exact e) rfl
theorem zum {st:Store}{r:List Int}(hl:r.length<=1000000)(τ:DS):eComp (iSeq (eVar 1)) 1 [] (gN 0) bYes (eCall zbf (aCons (eVar 0) aNil)) [some τ0,some (rowD r)] st=.ok (.lst (r.map fun _=>D.bl true)) st:=by
 have W:=zjh (bd:=gN 0) (c:=bYes) (f:=eCall zbf (aCons (eVar 0) aNil)) (xs:=r.map D.int) (σ:=[none]) (st:=st)
  (fun i acc σ s=>s=st/\(∃v,σ=[v])/\acc=(r.take i).map fun _=>D.bl true) ⟨rfl,⟨none,rfl⟩,rfl⟩ (by
   rintro i y acc σ s hy ⟨rfl,⟨v,rfl⟩,rfl⟩;rw[xck] at hy;cases hx:r[i]? with
   | none=>rw[hx] at hy;cases hy
   | some x =>
    rw[hx] at hy;cases hy;refine⟨[some (.int x)],true,s,rfl,rfl,.inr ⟨rfl,.bl true,s,rfl,rfl,⟨_,rfl⟩,?_⟩⟩;rw[zo hx]
    simp)
 obtain⟨ys,σ',st',e,rfl,_,rfl⟩:=W;rw[zfc,xda] at e;rw[zhr];show(if(r.map D.int).length<=sizeLine then _ else _)=_;rw[if_pos (by rw[zfc];exact small _ hl)];show((compF _ _ _ _ [none] _).bind _)=_;rw[e]
 rfl
theorem zmv (r:List Int):asBools (r.map fun _=>D.bl true)=some (r.map fun _=>true):=by
 induction r with
 | nil=>rfl
 | cons a r ih=>rw[xbq,asBools,ih];rfl
theorem zlm {st:Store}{n:Nat}{ks:List (List Int)}{r:List Int}(h:st[n]?=some (.dT (trueD ks)))(hr:r∈ks)(hl:r.length<=1000000):zcl [.ref n,rowD r] st=.ok (.bl true) st:=by
 refine zeh rfl ?_;have e1:=zum (st:=st) (τ0:=.ref n) hl [];have e2:=zuw (k:=r) (zjn h);rw[zjj,if_pos hr] at e2;have e3:bAny true [.lst (r.map fun _=>D.bl true)] st=.ok (.bl true) st:=by
  unfold bAny;simp[zmv]
 have e0:eCall bIsinst (aCons (eVar 1) (aCons (eC (.ty "tuple")) aNil)) [some (.ref n), some (rowD r)] st=.ok (.bl true) st:=rfl
 have e4:eCall (bAny true) (aCons (eComp (iSeq (eVar 1)) 1 [] (gN 0) bYes (eCall zbf (aCons (eVar 0) aNil))) aNil) [some (.ref n),some (rowD r)] st=.ok (.bl true) st:=by
  rw[zdy,zgh,e1];exact e3
 have e5:eOp (oDIn false) (eVar 1) (eVar 0) [some (.ref n),some (rowD r)] st=.ok (.bl true) st:=e2;show sRet _ [some (.ref n),some (rowD r)] st=_;rw[zpw,zya,e0,zy];show(eAnd _ _ [some (.ref n),some (rowD r)] st).bind _=_;rw[zya,e4,zy];show(eOp (oDIn false) (eVar 1) (eVar 0) [some (.ref n),some (rowD r)] st).bind _=_;rw[e5]
 rfl
theorem zkf {st:Store}{n:Nat}{ks:List (List Int)}{r:List Int}{p:Nat}(h:st[n]?=some (.dT (trueD ks)))(nd:ks.Nodup)(hk:ks.length<=500000)(hr:r∈ks)(hl:r.length<=100)(hs:slowAt r p)
  (ha:1<=r.getD p 0)(ha2:r.getD p 0<=60)(hb:-1000<=r.getD (p+1) 0)(hb2:r.getD (p+1) 0<=1000) :
  ∃g,zcf [.ref n,rowD r,.int p] st=.ok .non ((st.set n (.dT (trueD ((r::exRow r p).foldl flipL ks))))++g):=by
 have hp:p+1 < r.length:=by
  obtain⟨a,b,_,z,_⟩:=hs;exact(xbc.mp z).1
 have hn:=zh h;have e1:=zlm h hr (by lia);have e2:=zjb (st:=st) (r:=r) (p:=p);rw[xcc (p:=0<=(p:Int)/\slowAt r (p:Int).toNat) ⟨by lia,by rw[xgf];exact hs⟩] at e2;have e3:=znx (k:=r) h (by lia);obtain⟨g,e4⟩:=zen (st:=st.set n (.dT (trueD (flipL ks r)))) hp hl ha ha2 hb hb2;have hx:=zhp r p;have nd1:=zck (k:=r) nd;have hk1:=zho ks r;have W:=zpg (bd:=gN 3) (body:=zcv) (xs:=rowsD (exRow r p)) (σ:=[some (.ref n),some (rowD r),some (.int p),none]) (st:=st.set n (.dT (trueD (flipL ks r)))++g)
  (fun i σ s=>(∃v,σ=[some (.ref n),some (rowD r),some (.int p),v])/\s=st.set n (.dT (trueD (((exRow r p).take i).foldl flipL (flipL ks r))))++g) ⟨⟨none,rfl⟩,rfl⟩ (by
   rintro i y σ s hy ⟨⟨v,rfl⟩,rfl⟩;obtain⟨k,hk',rfl⟩:=zca hy;have hn':(st.set n (.dT (trueD (((exRow r p).take i).foldl flipL (flipL ks r))))++g)[n]?=some (.dT (trueD (((exRow r p).take i).foldl flipL (flipL ks r)))):=by
    rw[xbf (by rw[xcm];exact hn),zcx hn]
   have hlen:(((exRow r p).take i).foldl flipL (flipL ks r)).length<=1000000:=by
    have:=zkd ((exRow r p).take i) (flipL ks r) nd1;rw[xco] at this;lia
   have e5:=znx (k:=k) hn' hlen;have e6:(st.set n (.dT (trueD (((exRow r p).take i).foldl flipL (flipL ks r))))++g).set n (.dT (trueD (flipL (((exRow r p).take i).foldl flipL (flipL ks r)) k)))=st.set n (.dT (trueD (((exRow r p).take (i+1)).foldl flipL (flipL ks r))))++g:=by
    rw[zo hk',xiv,List.set_append_left _ _ (by rw[xcm];exact hn),zwc]
    rfl
   rw[e6] at e5;refine⟨[some (.ref n),some (rowD r),some (.int p),some (rowD k)],[some (.ref n),some (rowD r),some (.int p),some (rowD k)],_,rfl,?_,⟨_,rfl⟩,rfl⟩;unfold zcv;rw[zup,zdy];show((zik [.ref n,rowD k] _).bind _)=_;rw[e5]
   rfl)
 obtain⟨σ',st',e,⟨v,rfl⟩,rfl⟩:=W;rw[zg,xda] at e;refine⟨g,zbhn (σ:=[some (.ref n),some (rowD r),some (.int p),v]) rfl ?_⟩;refine seqN (σ1:=[some (.ref n),some (rowD r),some (.int p),none]) (st1:=st) ?_ ?_
 ·rw[zbap,zbep,zph,zdy];show((((zcl [.ref n,rowD r] st).bind _).bind _).bind _)=_;rw[e1]
  rfl
 refine seqN (σ1:=[some (.ref n),some (rowD r),some (.int p),none]) (st1:=st) ?_ ?_
 ·rw[zbap,zbep,zph,zdy];show((((zbn [rowD r,.int p] st).bind _).bind _).bind _)=_;rw[e2]
  rfl
 refine seqN (σ1:=[some (.ref n),some (rowD r),some (.int p),none]) (st1:=st.set n (.dT (trueD (flipL ks r)))) ?_ ?_
 ·rw[zup,zdy];show((zik [.ref n,rowD r] st).bind _)=_;rw[e3]
  rfl
 ·rw[zwg,zbde,zdy];show((((zba [rowD r,.int p] _).bind _)).bind _)=_;rw[e4];exact e
structure CntG (f:Nat->D) (kvs:List (List Int×D)) (l:List (List Int)):Prop where
 nd:(kvs.map (·.1)).Nodup
 mem:∀k,k∈kvs.map (·.1)↔k∈l
 val:∀p∈kvs,p.2=f (l.count p.1)
 len:kvs.length<=l.length
theorem CntG.nil (f:Nat->D):CntG f [] []:=⟨xfq,fun k=>by simp,fun p h=>(by cases h),by simp⟩
theorem CntG.at {f:Nat->D}{kvs:List (List Int×D)}{l:List (List Int)}(h:CntG f kvs l)(k:List Int):valD kvs k=if k∈l then some (f (l.count k)) else none:=by
 have gen:∀kvs:List (List Int×D),(∀p∈kvs,p.2=f (l.count p.1))->valD kvs k=if k∈kvs.map (·.1) then some (f (l.count k)) else none:=by
  intro kvs
  induction kvs with
  | nil=>intro _;rfl
  | cons a kvs ih =>
   intro hv;have ih:=ih fun p hp=>hv p (xbm _ hp)
   unfold valD at ih ⊢;rw[xeb];by_cases e:a.1=k
   ·have:=hv a xcn;simp only[e,xhe,Option.map_some,xbq,xbr,true_or,xfl];rw[this,e]
   ·simp only[xby e];rw[ih];simp only[xbq,xbr,show ¬ k=a.1 from fun z=>e z.symm,false_or]
 rw[gen kvs h.val];simp only[h.mem]
theorem CntG.put {f:Nat->D}{kvs:List (List Int×D)}{l:List (List Int)}(h:CntG f kvs l)(k:List Int):CntG f (putD kvs k (f (l.count k+1))) (l++[k]):=by
 have any:(kvs.any fun kv=>decide (kv.1=k))=decide (k∈l):=by
  rw[xfd,xhh,← h.mem,xkj,xcb];constructor
  ·rintro⟨x,hx,e⟩;exact⟨x,hx,by simpa using e⟩
  ·rintro⟨p,hp,e⟩;exact⟨p,hp,by simpa using e⟩
 unfold putD;rw[any];by_cases hk:k∈l
 ·rw[if_pos (by simpa using hk)];have keys:(kvs.map fun kv=>if kv.1=k then(kv.1,f (l.count k+1)) else kv).map (·.1)=kvs.map (·.1):=by
   rw[xdr]
   congr 1
   funext p
   dsimp only[Function.comp];split<;>rfl
  refine⟨by rw[keys];exact h.nd,fun x=>?_,fun p hp=>?_,?_⟩
  ·rw[keys,h.mem,xch,xdh];exact⟨.inl,fun z=>z.elim id fun e=>e ▸ hk⟩
  ·obtain⟨q,hq,rfl⟩:=xcb.mp hp;have:=h.val q hq;by_cases e:q.1=k
   ·rw[if_pos e];dsimp only;rw[e,xiw];simp
   ·rw[if_neg e,this,xiw];have:List.count q.1 [k]=0:=by rw[xii];simpa using e
    rw[this];rfl
  ·rw[xbd,xbp];have:=h.len;lia
 ·rw[if_neg (by simpa using hk)];refine⟨?_,fun x=>?_,fun p hp=>?_,?_⟩
  ·rw[xdw,xhf];refine⟨h.nd,by simp,fun a ha b hb=>?_⟩;simp at hb;subst hb;exact fun e=>hk ((h.mem _).mp (e ▸ ha))
  ·rw[xdw,xch,h.mem,xch];simp
  ·rcases xch.mp hp with hp | hp
   ·have e1:=h.val p hp;have e2:p.1≠k:=fun e=>hk ((h.mem _).mp (e ▸ xcb.mpr ⟨p,hp,rfl⟩))
    rw[e1,xiw];have:List.count p.1 [k]=0:=by rw[xii];simpa using e2
    rw[this];rfl
   ·simp at hp;subst hp;rw[xiw,xii.mpr hk];simp
  ·rw[xbp,xbp];have:=h.len;simp;exact this
noncomputable def oddB (n:Nat):D:=.bl (decide (n % 2=1))
theorem ztg (n:Nat):oddB (n+1)=.bl (!decide (n % 2=1)):=by
 unfold oddB
 congr 1
 by_cases h:n % 2=1
 ·rw[xcc h,xby (by lia)];rfl
 ·rw[xby h,xcc (by lia)];rfl
theorem zgb {st:Store}{x:D}{l:List (List Int)}(hx:seqV x=some (rowsD l))(hl:l.length<=1000000)(ho:(oddL l).length<=1000000):∃g,zcu [x] st=.ok (sumD (oddS l)) (st++g):=by
 have W:=zpg (bd:=gN 2) (body:=zez) (xs:=rowsD l) (σ:=[some x,some (.ref st.length),none]) (st:=st++[.dT []])
  (fun i σ s=>∃(v:Option D) (kvs:List (List Int×D)),σ=[some x,some (.ref st.length),v]/\s=st++[.dT kvs]/\CntG oddB kvs (l.take i)) ⟨none,[],rfl,rfl,CntG.nil _⟩ (by
   rintro i y σ s hy ⟨v,kvs,rfl,rfl,hc⟩;obtain⟨k,hk,rfl⟩:=zca hy;have hc':=hc.put k;have hn:(st++[O.dT kvs])[st.length]?=some (.dT kvs):=by simp
   have e2:(valD kvs k).getD (.bl false)=.bl (decide ((l.take i).count k % 2=1)):=by
    rw[hc.at];split
    ·rfl
    ·rename_i z;rw[xii.mpr z];rfl
   have e3:=zed k;have e4:=zjn hn;have e5:kvs.length < sizeLine:=by
    have h1:=hc.len;have h2:(l.take i).length<=l.length:=by rw[xco];exact xhr _ _
    exact smallT _ (by lia)
   refine⟨[some x,some (.ref st.length),some (rowD k)],[some x,some (.ref st.length),some (rowD k)],st++[.dT (putD kvs k (oddB ((l.take i).count k+1)))],rfl,?_,some (rowD k),_,rfl,rfl,by rw[zo hk];exact hc'⟩;rw[ztg];unfold zez;simp only[rowD] at *
   simp only[zuq,zbdi,zxz,zbdh,eC_v,xgp,xip,zy,e4,e3,e2,hn,e5,xfl]
   simp)
 obtain⟨σ',st',e,v,kvs,rfl,rfl,hc⟩:=W;rw[zg,xda] at hc;have V:=zjh (bd:=gN 0) (c:=eTru (eOp oDGet (eVar 1) (eVar 0))) (f:=eVar 0) (xs:=rowsD (kvs.map (·.1))) (σ:=[none,some (.ref st.length)]) (st:=st++[.fT kvs])
  (fun i acc σ s=>s=st++[.fT kvs]/\(∃w:Option D,σ=[w,some (.ref st.length)])/\acc=rowsD (((kvs.map (·.1)).take i).filter fun k=>decide (l.count k % 2=1))) ⟨rfl,⟨none,rfl⟩,rfl⟩ (by
   rintro i y acc σ s hy ⟨rfl,⟨w,rfl⟩,rfl⟩;obtain⟨k,hk,rfl⟩:=zca hy;have hn:(st++[O.fT kvs])[st.length]?=some (.fT kvs):=by simp
   have hkl:k∈l:=(hc.mem k).mp (xbs hk);have e2:valD kvs k=some (oddB (l.count k)):=by rw[hc.at,if_pos hkl]
   have e3:oDGet (.ref st.length) (rowD k) (st++[O.fT kvs])=.ok (oddB (l.count k)) _:=zxg (zxb hn) e2;refine⟨[some (rowD k),some (.ref st.length)],decide (l.count k % 2=1),st++[.fT kvs],rfl,?_,?_⟩
   ·rw[zph];show((oDGet (.ref st.length) (rowD k) (st++[O.fT kvs])).bind _)=_;rw[e3]
    rfl
   ·by_cases ho:l.count k % 2=1
    ·refine .inr ⟨xcc ho,rowD k,_,rfl,rfl,⟨_,rfl⟩,?_⟩;rw[zo hk,xdu];simp[ho,rowsD]
    ·refine .inl ⟨xby ho,rfl,⟨_,rfl⟩,?_⟩;rw[zo hk,xdu]
     simp[ho,rowsD])
 obtain⟨ys,σ2,st2,e2,rfl,⟨w,rfl⟩,rfl⟩:=V;rw[zg,xda] at e2;refine⟨[.fT kvs],zeh rfl ?_⟩;have nd:((kvs.map (·.1)).filter fun k=>decide (l.count k % 2=1)).Nodup:=hc.nd.filter _;have mm:∀k,k∈((kvs.map (·.1)).filter fun k=>decide (l.count k % 2=1))↔l.count k % 2=1:=fun k=>by
  rw[xcw,hc.mem,xhh];refine⟨fun h=>h.2,fun h=>⟨?_,h⟩⟩;rcases xjz (l.count k) with z | z
  ·rw[z] at h;cases h
  ·exact List.count_pos_iff.mp z
 have e5:sortR ((kvs.map (·.1)).filter fun k=>decide (l.count k % 2=1))=oddS l:=zbcb nd mm;have few:((kvs.map (·.1)).filter fun k=>decide (l.count k % 2=1)).length<=1000000:=by
  have p:=zfw nd (zfe l) fun k=>by rw[mm,zme]
  rw[p.length_eq];exact ho
 have e6:=zmr (st:=st++[.fT kvs]) few;rw[e5] at e6;have hlen:(rowsD (kvs.map (·.1))).length<=sizeLine:=by
  rw[zg,xbd];exact small _ (by have:=hc.len;lia)
 refine seqN (σ1:=[some x,some (.ref st.length),none]) (st1:=st++[.dT []]) (by simp) ?_;refine seqN (σ1:=[some x,some (.ref st.length),v]) (st1:=st++[.dT kvs]) (by simp[hx,e]) ?_;have e7:eComp (iDict (eVar 1)) 1 [1] (gN 0) (eTru (eOp oDGet (eVar 1) (eVar 0))) (eVar 0) [some x,some (.ref st.length),v] (st++[.dT kvs])=.ok (.lst (rowsD ((kvs.map (·.1)).filter fun k=>decide (l.count k % 2=1)))) (st++[.fT kvs]):=by
  rw[zhr];have e8:iDict (eVar 1) [some x,some (.ref st.length),v] (st++[.dT kvs])=.ok (rowsD (kvs.map (·.1))) (st++[.fT kvs]):=by
   simp
  rw[e8,zy,if_pos hlen];show(compF _ _ _ _ [none,some (.ref st.length)] _).bind _=_;rw[e2]
  rfl
 rw[zpw,zdy,zgh,zdy,zgh,e7];simp only[zy,zbet,e6,zrq]
theorem zbdq {i j:Int}(h0:0 < j)(h1:j<=1000):CDivP i j:=⟨h0,Int.lt_of_le_of_lt h1 (by decide +kernel)⟩
theorem mulR {i j:Int}(h1:-10000<=j)(h2:j<=10000):CMul i j:=.inr ⟨by lia,by lia⟩
theorem rngN {j:Int}(h1:-10000<=j)(h2:j<=10000):RngOk j:=rngOk (by lia) (by lia)
structure RowOk (r:List Int) (most:Int) (long:Nat):Prop where
 pos:∀p∈r,1<=p
 sum:r.sum<=most
 len:r.length<=long
theorem zcn {r:List Int}(h:∀p∈r,1<=p):0<=r.sum:=by
 induction r with
 | nil=>simp
 | cons a r ih =>
  rw[xgs];have:=h a xcn;have:=ih fun p hp=>h p (xbm _ hp)
  lia
theorem zzl (xs:List D)(y:D):L2.atI (xs++[y]) (-1)=some y:=by
 unfold L2.atI ixN;rw[xbp];have e:((-1:Int)+((xs.length+[y].length:Nat):Int)).toNat=xs.length:=by simp;lia
 rw[if_neg (by lia),if_pos (by simp;lia),e];simp
end Dd
namespace Dd
open PySem L2
noncomputable def WP {α:Type} (r:Res α) (Q:α->Store->Prop):Prop:=match r with
 | .ok a st=>Q a st
 | _=>False
theorem WP.get {α:Type}{r:Res α}{Q:α->Store->Prop}(h:WP r Q):∃a st,r=.ok a st/\Q a st:=by
 cases r with
 | ok a st=>exact⟨a,st,rfl,h⟩
 | exc x st=>exact h.elim
 | stuck=>exact h.elim
theorem WP.of {α:Type}{r:Res α}{Q:α->Store->Prop}{a:α}{st:Store}(e:r=.ok a st)(h:Q a st):WP r Q:=by rw[e];exact h
theorem WP.mono {α:Type}{r:Res α}{Q Q':α->Store->Prop}(h:WP r Q)(k:∀a st,Q a st->Q' a st):WP r Q':=by
 obtain⟨a,st,rfl,q⟩:=h.get;exact k a st q
theorem zi {α β:Type}{r:Res α}{f:α->Store->Res β}{Q:β->Store->Prop}:WP (r.bind f) Q=WP r (fun a st=>WP (f a st) Q):=by
 cases r<;>rfl
noncomputable def seqK (t:SS) (Q:Fl->Store->Prop):Fl->Store->Prop:=fun fl st=>match fl with
 | .nx σ=>WP (t σ st) Q
 | fl=>Q fl st
theorem zzv {s t:SS}{σ:DS}{st:Store}{Q:Fl->Store->Prop}:WP (sSeq s t σ st) Q=WP (s σ st) (seqK t Q):=by
 unfold sSeq;cases s σ st with
 | ok fl st1=>cases fl<;>rfl
 | exc x st=>rfl
 | stuck=>rfl
theorem zsb {α:Type}{c:Prop}[Decidable c]{a b:Res α}{Q:α->Store->Prop}:WP (if c then a else b) Q=if c then WP a Q else WP b Q:=by
 split<;>rfl
theorem zlk {α:Type}{c:Prop}[Decidable c]{a:Res α}{Q:α->Store->Prop}:WP (if c then a else .stuck) Q=(c/\WP a Q):=by
 by_cases h:c
 ·rw[if_pos h];simp[h]
 ·rw[if_neg h];simp[h,WP]
noncomputable def retK (Q:D->Store->Prop):Fl->Store->Prop:=fun fl st=>match fl with
 | .ret v=>Q v st
 | .nx _=>Q .non st
 | _=>False
theorem zsa {n np:Nat}{b:SS}{ds:List D}{st:Store}{Q:D->Store->Prop}(h:ds.length=np)(k:WP (b (ds.map some++List.replicate (n - np) none) st) (retK Q)):WP (fnD n np b ds st) Q:=by
 obtain⟨fl,st',e,q⟩:=k.get;unfold fnD;rw[if_pos h,e];cases fl<;>first | exact q | exact q.elim
noncomputable def bK (Q:Bool->Store->Prop):D->Store->Prop:=fun v st=>match v with
 | .bl b=>Q b st
 | _=>False
noncomputable def gK (bd:SG) (Q:Fl->Store->Prop) (σ:DS):D->Store->Prop:=fun v st=>match bd v σ with
 | some σ1=>Q (.nx σ1) st
 | none=>False
theorem W:(∀{α:Type} {a:α} {st:Store} {Q:α->Store->Prop},WP (.ok a st) Q=Q a st)
 /\ (∀{s t:SS} {σ:DS} {st:Store} {Q:Fl->Store->Prop},WP (sSeq s t σ st) Q=WP (s σ st) (seqK t Q))
 /\ (∀{t:SS} {σ:DS} {st:Store} {Q:Fl->Store->Prop},seqK t Q (.nx σ) st=WP (t σ st) Q)
 /\ (∀{t:SS} {v:D} {st:Store} {Q:Fl->Store->Prop},seqK t Q (.ret v) st=Q (.ret v) st)
 /\ (∀{t:SS} {σ:DS} {st:Store} {Q:Fl->Store->Prop},seqK t Q (.brk σ) st=Q (.brk σ) st)
 /\ (∀{t:SS} {σ:DS} {st:Store} {Q:Fl->Store->Prop},seqK t Q (.ct σ) st=Q (.ct σ) st)
 /\ (∀{v:D} {st:Store} {Q:D->Store->Prop},retK Q (.ret v) st=Q v st)
 /\ (∀{σ:DS} {st:Store} {Q:D->Store->Prop},retK Q (.nx σ) st=Q .non st)
 /\ (∀{b:Bool} {st:Store} {Q:Bool->Store->Prop},bK Q (.bl b) st=Q b st)
 /\ (∀{d:D} {σ:DS} {st:Store} {Q:D->Store->Prop},WP (eC d σ st) Q=Q d st)
 /\ (∀{g:D->D->Store->Res D} {f f':SE} {σ:DS} {st:Store} {Q:D->Store->Prop},WP (eOp g f f' σ st) Q=WP (f σ st) (fun x st1=>WP (f' σ st1) (fun y st2=>WP (g x y st2) Q)))
 /\ (∀{g:D->Store->Res D} {f:SE} {σ:DS} {st:Store} {Q:D->Store->Prop},WP (eUn g f σ st) Q=WP (f σ st) (fun x st1=>WP (g x st1) Q))
 /\ (∀{g:List D->Store->Res D} {f:SA} {σ:DS} {st:Store} {Q:D->Store->Prop},WP (eCall g f σ st) Q=WP (f σ st) (fun x st1=>WP (g x st1) Q))
 /\ (∀{σ:DS} {st:Store} {Q:List D->Store->Prop},WP (aNil σ st) Q=Q [] st)
 /\ (∀{f:SE} {g:SA} {σ:DS} {st:Store} {Q:List D->Store->Prop},WP (aCons f g σ st) Q=WP (f σ st) (fun x st1=>WP (g σ st1) (fun xs st2=>Q (x::xs) st2)))
 /\ (∀{f:SE} {σ:DS} {st:Store} {Q:Bool->Store->Prop},WP (eB f σ st) Q=WP (f σ st) (bK Q))
 /\ (∀{f f':ST} {σ:DS} {st:Store} {Q:Bool->Store->Prop},WP (bAnd f f' σ st) Q=WP (f σ st) (fun b st1=>if b=true then WP (f' σ st1) Q else Q false st1))
 /\ (∀{f f':ST} {σ:DS} {st:Store} {Q:Bool->Store->Prop},WP (bOr f f' σ st) Q=WP (f σ st) (fun b st1=>if b=true then Q true st1 else WP (f' σ st1) Q))
 /\ (∀{f:ST} {σ:DS} {st:Store} {Q:Bool->Store->Prop},WP (bNot f σ st) Q=WP (f σ st) (fun b st1=>Q (!b) st1))
 /\ (∀{σ:DS} {st:Store} {Q:Bool->Store->Prop},WP (bYes σ st) Q=Q true st)
 /\ (∀{f f':SE} {σ:DS} {st:Store} {Q:D->Store->Prop},WP (eAnd f f' σ st) Q=WP (f σ st) (bK fun b st1=>if b=true then WP (f' σ st1) Q else Q (.bl false) st1))
 /\ (∀{f f':SE} {σ:DS} {st:Store} {Q:D->Store->Prop},WP (eOr f f' σ st) Q=WP (f σ st) (bK fun b st1=>if b=true then Q (.bl true) st1 else WP (f' σ st1) Q))
 /\ (∀{f:SE} {σ:DS} {st:Store} {Q:D->Store->Prop},WP (eNot f σ st) Q=WP (f σ st) (bK fun b st1=>Q (.bl (!b)) st1))
 /\ (∀{c:ST} {f f':SE} {σ:DS} {st:Store} {Q:D->Store->Prop},WP (eIf c f f' σ st) Q=WP (c σ st) (fun b st1=>if b=true then WP (f σ st1) Q else WP (f' σ st1) Q))
 /\ (∀{g:SA} {σ:DS} {st:Store} {Q:D->Store->Prop},WP (eTup g σ st) Q=WP (g σ st) (fun xs st1=>xs.length<=sizeLine/\Q (.tup xs) st1))
 /\ (∀{g:SA} {σ:DS} {st:Store} {Q:D->Store->Prop},WP (eLst g σ st) Q=WP (g σ st) (fun xs st1=>xs.length<=sizeLine/\Q (.lst xs) st1))
 /\ (∀{g:SA} {σ:DS} {st:Store} {Q:D->Store->Prop},WP (eLstM g σ st) Q=WP (g σ st) (fun xs st1=>xs.length<=sizeLine/\Q (.ref st1.length) (st1++[.lst xs])))
 /\ (∀{σ:DS} {st:Store} {Q:D->Store->Prop},WP (eDNew σ st) Q=Q (.ref st.length) (st++[.dT []]))
 /\ (∀{σ:DS} {st:Store} {Q:Fl->Store->Prop},WP (sNx σ st) Q=Q (.nx σ) st)
 /\ (∀{σ:DS} {st:Store} {Q:Fl->Store->Prop},WP (sBrk σ st) Q=Q (.brk σ) st)
 /\ (∀{σ:DS} {st:Store} {Q:Fl->Store->Prop},WP (sCt σ st) Q=Q (.ct σ) st)
 /\ (∀{σ:DS} {st:Store} {Q:Fl->Store->Prop},WP (sRetN σ st) Q=Q (.ret .non) st)
 /\ (∀{f:SE} {σ:DS} {st:Store} {Q:Fl->Store->Prop},WP (sRet f σ st) Q=WP (f σ st) (fun v st1=>Q (.ret v) st1))
 /\ (∀{f:SE} {σ:DS} {st:Store} {Q:Fl->Store->Prop},WP (sDrop f σ st) Q=WP (f σ st) (fun _ st1=>Q (.nx σ) st1))
 /\ (∀{i:Nat} {f:SE} {σ:DS} {st:Store} {Q:Fl->Store->Prop},WP (sSet i f σ st) Q=WP (f σ st) (fun v st1=>Q (.nx (σ.set i (some v))) st1))
 /\ (∀{bd:SG} {f:SE} {σ:DS} {st:Store} {Q:Fl->Store->Prop},WP (sSetG bd f σ st) Q=WP (f σ st) (gK bd Q σ))
 /\ (∀{c:ST} {s t:SS} {σ:DS} {st:Store} {Q:Fl->Store->Prop},WP (sIf c s t σ st) Q=WP (c σ st) (fun b st1=>if b=true then WP (s σ st1) Q else WP (t σ st1) Q))
 /\ (∀{it:SA} {bd:SG} {body:SS} {σ:DS} {st:Store} {Q:Fl->Store->Prop},WP (sFor it bd body σ st) Q=WP (it σ st) (fun xs st1=>WP (forF bd body xs σ st1) Q))
 /\ (∀{it:SA} {k:Nat} {is:List Nat} {bd:SG} {c:ST} {f:SE} {σ:DS} {st:Store} {Q:D->Store->Prop},WP (eComp it k is bd c f σ st) Q=WP (it σ st) (fun xs st1=>xs.length<=sizeLine/\WP (compF bd c f xs (startD k is σ) st1) (fun ys st2=>Q (.lst ys) st2)))
 /\ (∀{it:SA} {k:Nat} {is:List Nat} {bd:SG} {c:ST} {f:SE} {σ:DS} {st:Store} {Q:D->Store->Prop},WP (eCompM it k is bd c f σ st) Q=WP (it σ st) (fun xs st1=>xs.length<=sizeLine/\WP (compF bd c f xs (startD k is σ) st1) (fun ys st2=>Q (.ref st2.length) (st2++[.lst ys]))))
 /\ (∀{C:Int->Int->Prop} [DecidableRel C] {h:Int->Int->D} {i j:Int} {st:Store} {Q:D->Store->Prop},WP (oI C h (.int i) (.int j) st) Q=(C i j/\Q (h i j) st))
 /\ (∀{i j:Int} {st:Store} {Q:D->Store->Prop},WP (oAdd (.int i) (.int j) st) Q=Q (.int (i+j)) st)
 /\ (∀{a b:List D} {st:Store} {Q:D->Store->Prop},WP (oAdd (.tup a) (.tup b) st) Q=(a.length+b.length<=sizeLine/\Q (.tup (a++b)) st))
 /\ (∀{i j:Int} {st:Store} {Q:D->Store->Prop},WP (oLtT (.int i) (.int j) st) Q=Q (.bl (decide (i < j))) st)
 /\ (∀{i j:Int} {st:Store} {Q:D->Store->Prop},WP (oEqG false (.int i) (.int j) st) Q=Q (.bl (decide (i=j))) st)
 /\ (∀{i j:Int} {st:Store} {Q:D->Store->Prop},WP (oEqG true (.int i) (.int j) st) Q=Q (.bl (!decide (i=j))) st)
 /\ (∀{i:Int} {st:Store} {Q:D->Store->Prop},WP (oNeg (.int i) st) Q=Q (.int (-i)) st)
 /\ (∀{i j:Int} {g:Int->Int->Int} {st:Store} {Q:D->Store->Prop},WP (b2I g [.int i,.int j] st) Q=Q (.int (g i j)) st)
 /\ (∀{i:Int} {st:Store} {Q:D->Store->Prop},WP (bAbs [.int i] st) Q=Q (.int (if i < 0 then -i else i)) st)
 /\ (∀{b:Bool} {st:Store} {Q:D->Store->Prop},WP (bInt [.bl b] st) Q=Q (.int (if b=true then 1 else 0)) st)
 /\ (∀{xs:List D} {st:Store} {Q:D->Store->Prop},WP (bLen [.tup xs] st) Q=Q (.int xs.length) st)
 /\ (∀{xs:List D} {st:Store} {Q:D->Store->Prop},WP (bLen [.lst xs] st) Q=Q (.int xs.length) st)
 /\ (∀{xs:List D} {st:Store} {Q:D->Store->Prop},WP (bLen [.scr xs] st) Q=Q (.int xs.length) st)
 /\ (∀{xs:List D} {st:Store} {Q:D->Store->Prop},WP (bTuple [.tup xs] st) Q=Q (.tup xs) st)
 /\ (∀{xs:List D} {st:Store} {Q:D->Store->Prop},WP (bTuple [.lst xs] st) Q=Q (.tup xs) st)
 /\ (∀{xs:List D} {st:Store} {Q:D->Store->Prop},WP (bList [.tup xs] st) Q=Q (.lst xs) st)
 /\ (∀{xs:List D} {st:Store} {Q:D->Store->Prop},WP (bList [.lst xs] st) Q=Q (.lst xs) st)
 /\ (∀{d:D} {σ:DS} {st:Store} {Q:D->Store->Prop},WP (eVar 0 (some d::σ) st) Q=Q d st)
 /\ (∀{i:Nat} {σ:DS} {st:Store} {Q:D->Store->Prop} {o:Option D},WP (eVar (i+1) (o::σ) st) Q=WP (eVar i σ st) Q)
 /\ (∀{f:SE} {σ:DS} {st:Store} {Q:List D->Store->Prop},WP (iSeq f σ st) Q=WP (f σ st) (fun x st1=>∃xs,seqV x=some xs/\Q xs st1))
 /\ (∀{f:SE} {σ:DS} {st:Store} {Q:Bool->Store->Prop},WP (eTru f σ st) Q=WP (f σ st) (fun x st1=>∃b,tru st1 x=some b/\Q b st1))
 /\ (∀{g:SA} {σ:DS} {st:Store} {Q:List D->Store->Prop},WP (iR1 g σ st) Q=WP (g σ st) (fun xs st1=>∃j,xs=[.int j]/\RngOk j/\Q (rng 0 j.toNat) st1))
 /\ (∀{g:SA} {σ:DS} {st:Store} {Q:List D->Store->Prop},WP (iR2 g σ st) Q=WP (g σ st) (fun xs st1=>∃i j,xs=[.int i,.int j]/\RngOk i/\RngOk j/\Q (rng i (j - i).toNat) st1)):=by
 have g2:∀{α:Type} {c:Prop} [Decidable c] {a:α} {st:Store} {Q:α->Store->Prop},WP (if c then .ok a st else .stuck) Q=(c/\Q a st):=fun {α c _ a st Q}=>zlk
 refine⟨rfl,zzv,rfl,rfl,rfl,rfl,rfl,rfl,rfl,rfl,?_⟩;refine⟨?_,?_⟩
 ·intros;rw[zbka,zi];congr;funext x st1;rw[zi]
 refine⟨zi,zi,rfl,?_⟩;refine⟨?_,?_⟩
 ·intros;rw[zgh,zi];congr;funext x st1;rw[zi];rfl
 refine⟨?_,?_⟩
 ·intros;rw[eB_v,zi];congr;funext x st1;cases x<;>rfl
 refine⟨?_,?_⟩
 ·intros;rw[zbjh,zi];congr;funext x st1;rw[zsb];rfl
 refine⟨?_,?_⟩
 ·intros;rw[zbjd,zi];congr;funext x st1;rw[zsb];rfl
 refine⟨zi,rfl,?_⟩;refine⟨?_,?_⟩
 ·intros;rw[zya,zi];congr;funext x st1;cases x<;>try rfl
  rename_i b;cases b<;>rfl
 refine⟨?_,?_⟩
 ·intros;rw[zble,zi];congr;funext x st1;cases x<;>try rfl
  rename_i b;cases b<;>rfl
 refine⟨?_,?_⟩
 ·intros;rw[zbdi,zi];congr;funext x st1;cases x<;>rfl
 refine⟨?_,?_⟩
 ·intros;rw[zblf,zi];congr;funext x st1;rw[zsb]
 refine⟨?_,?_⟩
 ·intros;rw[zbhp,zi];congr;funext x st1;rw[g2]
 refine⟨?_,?_⟩
 ·intros;rw[zbhq,zi];congr;funext x st1;rw[g2]
 refine⟨?_,?_⟩
 ·intros;rw[zbdj,zi];congr;funext x st1;rw[g2]
 refine⟨rfl,rfl,rfl,rfl,rfl,zi,zi,zi,?_⟩;refine⟨?_,?_⟩
 ·intro bd f σ st Q;unfold sSetG;rw[zi];congr;funext x st1;unfold gK;cases bd x σ<;>rfl
 refine⟨?_,?_⟩
 ·intros;rw[zbap,zi];congr;funext x st1;rw[zsb]
 refine⟨zi,?_⟩;refine⟨?_,?_⟩
 ·intros;rw[zhr,zi];congr;funext x st1;rw[zlk,zi];rfl
 refine⟨?_,?_⟩
 ·intros;unfold eCompM;rw[zi];congr;funext x st1;rw[zlk,zi];rfl
 refine⟨?_,?_⟩
 ·intros;rw[oI_v,g2]
 refine⟨rfl,?_⟩;refine⟨?_,?_⟩
 ·intros;rw[zbce,g2]
 refine⟨rfl,?_⟩;refine⟨?_,?_⟩
 ·intros;rw[show ∀i j st,oEqG false (.int i) (.int j) st=_ from fun i j st=>zbky];rfl
 refine⟨?_,?_⟩
 ·intros;rw[show ∀i j st,oEqG true (.int i) (.int j) st=_ from fun i j st=>zbkv];rfl
 refine⟨rfl,rfl,rfl,rfl,rfl,rfl,rfl,rfl,rfl,rfl,rfl,fun {d σ st Q}=>rfl,fun {i σ st Q o}=>rfl,?_⟩;refine⟨?_,?_⟩
 ·intros;rw[zbde,zi];congr;funext x st1
  cases h:seqV x with
  | none=>simp[WP]
  | some xs=>simp[WP]
 refine⟨?_,?_⟩
 ·intros;rw[zph,zi];congr;funext x st1
  cases h:tru st1 x with
  | none=>simp[WP]
  | some xs=>simp[WP]
 refine⟨?_,?_⟩
 ·intros;rw[zblb,zi];congr;funext x st1
  split
  ·rw[g2];simp[RngOk]
  ·rename_i hne;have:∀j,x≠[D.int j]:=fun j h=>hne j h
   simp[WP,this]
 ·intros;rw[zbla,zi];congr;funext x st1
  split
  ·rw[g2];simp only[RngOk,List.cons.injEq,D.int.injEq,and_true];apply propext;constructor
   ·rintro⟨h,q⟩;exact⟨_,_,⟨rfl,rfl⟩,h.1,h.2,q⟩
   ·rintro⟨i',j',⟨rfl,rfl⟩,h1,h2,q⟩;exact⟨⟨h1,h2⟩,q⟩
  ·rename_i hne;have:∀i j,x≠[D.int i,D.int j]:=fun i j h=>hne i j h
   simp[WP,this]
noncomputable def loopK (I:DS->Store->Prop) (Q:Fl->Store->Prop):Fl->Store->Prop:=fun fl st=>match fl with
 | .nx σ=>I σ st
 | .ct σ=>I σ st
 | .brk σ=>Q (.nx σ) st
 | .ret v=>Q (.ret v) st
theorem zil {bd:SG}{body:SS}{Q:Fl->Store->Prop}(I:Nat->DS->Store->Prop):∀(xs:List D) (k:Nat) (σ:DS) (st:Store),I k σ st ->
  (∀i x σ st,xs[i]?=some x->I (k+i) σ st->∃σ1,bd x σ=some σ1/\WP (body σ1 st) (loopK (I (k+i+1)) Q))->(∀σ st,I (k+xs.length) σ st->Q (.nx σ) st)->WP (forF bd body xs σ st) Q
 | [],k,σ,st,h,_,q=>q σ st h
 | x::xs,k,σ,st,h,s,q=>by
  obtain⟨σ1,e1,w⟩:=s 0 x σ st rfl h;obtain⟨fl,st2,e2,w⟩:=w.get;unfold forF;rw[e1];dsimp only;rw[e2]
  have go:∀σ2,I (k+0+1) σ2 st2->WP (forF bd body xs σ2 st2) Q:=fun σ2 h2=>zil I xs (k+1) σ2 st2 h2 (fun i y σ st hy hi=>by
   have:=s (i+1) y σ st (by simpa using hy) (by rw[show k+(i+1)=k+1+i by lia];exact hi);rw[show k+(i+1)+1=k+1+i+1 by lia] at this
   exact this) (fun σ st h=>q σ st (by rw[xbv,show k+(xs.length+1)=k+1+xs.length by lia];exact h))
  cases fl with
  | nx σ2=>exact go σ2 w
  | ct σ2=>exact go σ2 w
  | brk σ2=>exact w
  | ret v=>exact w
theorem zgs {bd:SG}{body:SS}{Q:Fl->Store->Prop}(I:Nat->DS->Store->Prop){xs:List D}{σ:DS}{st:Store}(h0:I 0 σ st)
  (s:∀i x σ st,xs[i]?=some x->I i σ st->∃σ1,bd x σ=some σ1/\WP (body σ1 st) (loopK (I (i+1)) Q))(q:∀σ st,I xs.length σ st->Q (.nx σ) st):WP (forF bd body xs σ st) Q :=
 zil I xs 0 σ st h0 (fun i x σ st hx hi=>by rw[xed] at hi ⊢;exact s i x σ st hx hi) fun σ st h=>q σ st (by rw[xed] at h;exact h)
theorem L:(∀{I:DS->Store->Prop} {Q:Fl->Store->Prop} {σ:DS} {st:Store},loopK I Q (.nx σ) st=I σ st)
 /\ (∀{I:DS->Store->Prop} {Q:Fl->Store->Prop} {σ:DS} {st:Store},loopK I Q (.ct σ) st=I σ st)
 /\ (∀{I:DS->Store->Prop} {Q:Fl->Store->Prop} {σ:DS} {st:Store},loopK I Q (.brk σ) st=Q (.nx σ) st)
 /\ (∀{I:DS->Store->Prop} {Q:Fl->Store->Prop} {v:D} {st:Store},loopK I Q (.ret v) st=Q (.ret v) st):=⟨rfl,rfl,rfl,rfl⟩
theorem zes {bd:SG}{c:ST}{f:SE}(I:Nat->List D->DS->Store->Prop):∀(xs:List D) (k:Nat) (acc:List D) (σ:DS) (st:Store) (Q:List D->Store->Prop),I k acc σ st ->
  (∀i x acc σ st,xs[i]?=some x->I (k+i) acc σ st->∃σ1,bd x σ=some σ1/\WP (c σ1 st) (fun b st1=>if b=true then WP (f σ1 st1) (fun y st2=>I (k+i+1) (acc++[y]) σ1 st2) else I (k+i+1) acc σ1 st1)) ->
  (∀ys σ st,I (k+xs.length) (acc++ys) σ st->Q ys st)->WP (compF bd c f xs σ st) Q
 | [],k,acc,σ,st,Q,h,_,q=>q [] σ st (by rw[xep];exact h)
 | x::xs,k,acc,σ,st,Q,h,s,q=>by
  obtain⟨σ1,e1,w⟩:=s 0 x acc σ st rfl h;obtain⟨b,st1,e2,w⟩:=w.get;have s':∀i y acc σ st,xs[i]?=some y->I (k+1+i) acc σ st->∃σ1,bd y σ=some σ1/\WP (c σ1 st) (fun b st1=>if b=true then WP (f σ1 st1) (fun y st2=>I (k+1+i+1) (acc++[y]) σ1 st2) else I (k+1+i+1) acc σ1 st1):=fun i y acc σ st hy hi=>by
   have:=s (i+1) y acc σ st (by simpa using hy) (by rw[show k+(i+1)=k+1+i by lia];exact hi);rw[show k+(i+1)+1=k+1+i+1 by lia] at this;exact this
  have ln:∀(zs:List D) σ st,I (k+1+xs.length) zs σ st->I (k+(x::xs).length) zs σ st:=fun zs σ st h=>by rw[xbv,show k+(xs.length+1)=k+1+xs.length by lia];exact h
  unfold compF;rw[e1];dsimp only;rw[e2];dsimp only[zy];cases b with
  | false =>
   rw[if_neg (by decide)] at w ⊢;exact zes I xs (k+1) acc σ1 st1 Q w s' fun ys σ st h=>q ys σ st (ln _ _ _ h)
  | true =>
   rw[if_pos rfl] at w ⊢;obtain⟨y,st2,e3,w⟩:=w.get;rw[e3];dsimp only[zy];rw[zi];exact zes I xs (k+1) (acc++[y]) σ1 st2 _ w s' fun ys σ st h=>q (y::ys) σ st (ln _ _ _ (by rw[xcg] at h;exact h))
theorem zzw {bd:SG}{c:ST}{f:SE}{Q:List D->Store->Prop}(I:Nat->List D->DS->Store->Prop){xs:List D}{σ:DS}{st:Store}(h0:I 0 [] σ st)
  (s:∀i x acc σ st,xs[i]?=some x->I i acc σ st->∃σ1,bd x σ=some σ1/\WP (c σ1 st) (fun b st1=>if b=true then WP (f σ1 st1) (fun y st2=>I (i+1) (acc++[y]) σ1 st2) else I (i+1) acc σ1 st1))
  (q:∀ys σ st,I xs.length ys σ st->Q ys st):WP (compF bd c f xs σ st) Q :=
 zes I xs 0 [] σ st Q h0 (fun i x acc σ st hx hi=>by rw[xed] at hi ⊢;exact s i x acc σ st hx hi) fun ys σ st h=>q ys σ st (by rw[xed] at h;simpa using h)
theorem zvy {bd:SG}{c:ST}{f:SE}{α:Type}(S:DS->Prop)(P:α->Bool)(G:α->D)(E:α->D){as:List α}{σ:DS}{st:Store}{Q:List D->Store->Prop}(h0:S σ)
  (s:∀x∈as,∀σ,S σ->∃σ1,bd (E x) σ=some σ1/\S σ1/\WP (c σ1 st) (fun b st1=>st1=st/\b=P x)/\(P x=true->WP (f σ1 st) (fun y st1=>st1=st/\y=G x)))
  (q:Q ((as.filter P).map G) st):WP (compF bd c f (as.map E) σ st) Q:=by
 refine zzw (fun i acc σ s'=>S σ/\s'=st/\acc=((as.take i).filter P).map G) ⟨h0,rfl,rfl⟩ (fun i x acc σ s' hx hI=>?_) fun ys σ s' hI=>?_
 ·obtain⟨hS,rfl,rfl⟩:=hI;rw[xck] at hx;obtain⟨z,hz,rfl⟩:=xcs.mp hx;obtain⟨σ1,e1,hS1,w1,w2⟩:=s z (xbs hz) σ hS;refine⟨σ1,e1,w1.mono fun b st1 hb=>?_⟩;obtain⟨rfl,rfl⟩:=hb;cases hP:P z with
  | false =>
   rw[if_neg (by decide)];refine⟨hS1,rfl,?_⟩;rw[zo hz,xdu,xdc (by rw[hP];decide)];simp
  | true =>
   rw[if_pos rfl];refine(w2 hP).mono fun y st2 hy=>?_
   obtain⟨rfl,rfl⟩:=hy;refine⟨hS1,rfl,?_⟩;rw[zo hz,xdu,xdd hP,xdw];simp
 ·obtain⟨_,rfl,rfl⟩:=hI;rw[xbd,xda];exact q
theorem V:(∀{α:Type} {a b:α} {l:List α},(a::l).set 0 b=b::l)
 /\ (∀{α:Type} {a b:α} {l:List α} {i:Nat},(a::l).set (i+1) b=a::l.set i b)
 /\ (∀{σ:DS} {k:Nat} {is:List Nat},startD k is σ=List.replicate k none++is.map fun i=>(σ[i]?).getD none)
 /\ (∀{α:Type} {a:α} {k:Nat},List.replicate (k+1) a=a::List.replicate k a)
 /\ (∀{α:Type} {a:α},List.replicate 0 a=[])
 /\ (∀{α β:Type} {f:α->β} {a:α} {l:List α},(a::l).map f=f a::l.map f)
 /\ (∀{α β:Type} {f:α->β},([]:List α).map f=[])
 /\ (∀{α:Type} {a:α} {l m:List α},(a::l)++m=a::(l++m))
 /\ (∀{α:Type} {l:List α},[]++l=l)
 /\ (∀{α:Type} {a:α} {l:List α},(a::l)[0]?=some a)
 /\ (∀{α:Type} {a:α} {l:List α} {i:Nat},(a::l)[i+1]?=l[i]?)
 /\ (∀{α:Type} {a:α} {d:α},(some a).getD d=a)
 /\ (∀{i:Nat} {d:D} {σ:DS},gN i d σ=some (σ.set i (some d)))
 /\ (∀{p:Prop} [Decidable p],(decide p=true)=p)
 /\ (∀{p:Prop} [Decidable p],((!decide p)=true)=¬ p)
 /\ (∀{b:Bool},((!b)=true)=(b=false))
 /\ (∀{a b:Prop},(if True then a else b)=a)
 /\ (∀{a b:Prop},(if False then a else b)=b)
 /\ (∀{a b:Prop},(if true=true then a else b)=a)
 /\ (∀{a b:Prop},(if false=true then a else b)=b)
 /\ (∀{α:Type} {a b:α},(if True then a else b)=a)
 /\ (∀{α:Type} {a b:α},(if False then a else b)=b)
 /\ ((true=false)=False)/\((false=true)=False)/\((true=true)=True)/\((false=false)=True)/\((¬ True)=False)/\((¬ False)=True):=by
 refine⟨rfl,rfl,rfl,rfl,rfl,rfl,rfl,rfl,rfl,rfl,?_,rfl,rfl,?_,?_,?_,rfl,rfl,rfl,rfl,rfl,rfl,by simp,by simp,by simp,by simp,by simp,by simp⟩
 ·intros;rfl
 ·intro p _;simp
 ·intro p _;simp
 ·intro b;simp
theorem M:(∀{f:SE} {σ:DS} {st:Store} {Q:Option Int->Store->Prop},WP (pSome f σ st) Q=WP (f σ st) (fun v st1=>∃i,v=.int i/\Q (some i) st1))
 /\ (∀{σ:DS} {st:Store} {Q:Option Int->Store->Prop},WP (pNone σ st) Q=Q none st)
 /\ (∀{f:SE} {lo hi:DS->Store->Res (Option Int)} {σ:DS} {st:Store} {Q:D->Store->Prop},WP (eSl f lo hi σ st) Q=WP (f σ st) (fun x st1=>WP (lo σ st1) (fun l st2=>WP (hi σ st2) (fun h st3=>(∃xs,x=.tup xs/\Q (.tup (cutD xs l h)) st3)\/(∃xs,asL st3 x=some xs/\Q (.lst (cutD xs l h)) st3)))))
 /\ (∀{f:SE} {σ:DS} {st:Store} {Q:D->Store->Prop},WP (eFz f σ st) Q=WP (f σ st) (fun x st1=>∃n xs,x=.ref n/\st1[n]?=some (.lst xs)/\Q (.lst xs) (st1.set n .dead)))
 /\ (∀{f g h:SE} {σ:DS} {st:Store} {Q:Fl->Store->Prop},WP (sSetIx f g h σ st) Q=WP (h σ st) (fun v st1=>WP (f σ st1) (fun x st2=>WP (g σ st2) (fun y st3=>∃n k xs j,x=.ref n/\y=.int k/\st3[n]?=some (.lst xs)/\ixN xs.length k=some j/\Q (.nx σ) (st3.set n (.lst (xs.set j v)))))))
 /\ (∀{f:SE} {g:SA} {σ:DS} {st:Store} {Q:D->Store->Prop},WP (eAppend f g σ st) Q=WP (f σ st) (fun x st1=>∃n xs0,x=.ref n/\st1[n]?=some (.lst xs0)/\WP (g σ st1) (fun ys st2=>∃y xs,ys=[y]/\st2[n]?=some (.lst xs)/\xs.length < sizeLine/\Q .non (st2.set n (.lst (xs++[y]))))))
 /\ (∀{x:D} {st:Store} {Q:D->Store->Prop},WP (bSum [x] st) Q=∃ns,(seqOf st x).bind asInts=some ns/\Q (.int ns.sum) st)
 /\ (∀{x:D} {al:Bool} {st:Store} {Q:D->Store->Prop},WP (bAny al [x] st) Q=∃bs,(asL st x).bind asBools=some bs/\Q (.bl (if al then bs.all id else bs.any id)) st)
 /\ (∀{x:D} {gt:Bool} {st:Store} {Q:D->Store->Prop},WP (bBest gt [x] st) Q=∃n ns,(seqOf st x).bind asInts=some (n::ns)/\Q (.int (bestI gt n ns)) st)
 /\ (∀{g:SA} {σ:DS} {st:Store} {Q:List D->Store->Prop},WP (iZipT g σ st) Q=WP (g σ st) (fun xs st1=>∃a b,xs=[.tup a,.tup b]/\Q (pairsF a b) st1))
 /\ (∀{i:Nat} {g:D->D->Store->Res D} {f:SE} {σ:DS} {st:Store} {Q:Fl->Store->Prop},WP (sAug i g f σ st) Q=∃x,σ[i]?=some (some x)/\WP (f σ st) (fun y st1=>WP (g x y st1) (fun z st2=>Q (.nx (σ.set i (some z))) st2))):=by
 refine⟨?_,rfl,?_,?_,?_,?_,?_,?_,?_,?_,?_⟩
 ·intros;rw[zbbv,zi];congr;funext x st1
  cases x<;>simp[WP]
 ·intros;rw[zbld,zi];congr;funext x st1;rw[zi];congr;funext l st2;rw[zi];congr;funext h st3
  apply propext;split
  ·constructor
   ·intro q;exact .inl ⟨_,rfl,q⟩
   ·rintro(⟨xs,e,q⟩ | ⟨xs,e,q⟩)
    ·cases e;exact q
    ·cases e
  ·rename_i hne;constructor
   ·intro q;split at q
    ·rename_i xs e;exact .inr ⟨xs,e,q⟩
    ·exact q.elim
   ·rintro(⟨xs,e,q⟩ | ⟨xs,e,q⟩)
    ·exact absurd e (hne xs)
    ·rw[e];exact q
 ·intros;rw[zblg,zi];congr;funext x st1
  apply propext;constructor
  ·intro q;split at q
   ·split at q
    ·rename_i xs e;exact⟨_,xs,rfl,e,q⟩
    ·exact q.elim
   ·exact q.elim
  ·rintro⟨n,xs,rfl,e,q⟩;dsimp only;rw[e];exact q
 ·intros;rw[zwf,zi];congr;funext v st1;rw[zi];congr;funext x st2;rw[zi];congr;funext y st3
  apply propext;constructor
  ·intro q;split at q
   ·split at q
    ·split at q
     ·exact⟨_,_,_,_,rfl,rfl,by assumption,by assumption,q⟩
     ·exact q.elim
    ·exact q.elim
   ·exact q.elim
  ·rintro⟨n,k,xs,j,rfl,rfl,e1,e2,q⟩;dsimp only;rw[e1];dsimp only;rw[e2];exact q
 ·intros;rw[zty,zi];congr;funext x st1
  apply propext;constructor
  ·intro q;split at q
   ·rename_i n xs0 e;rw[zi] at q;have e':st1[n]?=some (.lst xs0):=by
     unfold asL at e;dsimp only at e;split at e
     ·cases e;assumption
     ·cases e
    refine⟨n,xs0,rfl,e',q.mono fun ys st2 h=>?_⟩;split at h
    ·split at h
     ·exact⟨_,_,rfl,by assumption,by assumption,h⟩
     ·exact h.elim
    ·exact h.elim
   ·exact q.elim
  ·rintro⟨n,xs0,rfl,e,q⟩;rw[zji e];dsimp only;rw[zi];refine q.mono fun ys st2 h=>?_
   obtain⟨y,xs,rfl,e2,hl,h⟩:=h;rw[e2];dsimp only;rw[if_pos hl];exact h
 ·intro x st Q;unfold bSum;dsimp only;cases h:(seqOf st x).bind asInts with
  | none=>simp[WP]
  | some ns=>simp[WP]
 ·intro x al st Q;unfold bAny;dsimp only;cases h:(asL st x).bind asBools with
  | none=>simp[WP]
  | some ns=>simp[WP]
 ·intro x gt st Q;unfold bBest;dsimp only;cases h:(seqOf st x).bind asInts with
  | none=>simp[WP]
  | some ns =>
   cases ns with
   | nil=>simp[WP]
   | cons n ns =>
    apply propext;constructor
    ·intro q;exact⟨_,_,rfl,q⟩
    ·rintro⟨a,b,e,q⟩;cases e;exact q
 ·intro g σ st Q;unfold iZipT;rw[zi];congr;funext x st1
  apply propext;constructor
  ·intro q;split at q
   ·exact⟨_,_,rfl,q⟩
   ·exact q.elim
  ·rintro⟨a,b,rfl,q⟩;exact q
 ·intro i g f σ st Q;rw[zbfu];apply propext;constructor
  ·intro q;split at q
   ·rename_i x e;rw[zi] at q;exact⟨x,e,q.mono fun y st1 h=>by rw[zi] at h;exact h⟩
   ·exact q.elim
  ·rintro⟨x,e,q⟩;rw[e];dsimp only;rw[zi];exact q.mono fun y st1 h=>by rw[zi];exact h
section
variable {st:Store}{n:Nat}{Q:D->Store->Prop}
theorem zbag {m:Int}(hb:BagAt st n)(h1:1<=m)(h2:m<=1000000)(k:∀r st',0<=r->r < m->Drew st st' n->Q (.int r) st'):WP (zdd [.ref n,.int m] st) Q:=by
 obtain⟨r,st',e,a1,a2,a3,_⟩:=zbah hb h1 (Int.lt_of_le_of_lt h2 (by decide +kernel));exact WP.of e (k r st' a1 a2 a3)
theorem zbiz {ns:List Int}{i:Nat}(hl:ns.length<=63)(hi:i<=100000)(k:∀g,BagAt (st++g) st.length->Q (.ref st.length) (st++g)):WP (zeg [.scr (ns.map .int),.int i] st) Q:=by
 obtain⟨c,x,hc,hx,e⟩:=zbja (st:=st) hl hi;exact WP.of e (k _ ⟨c,x,by simp,hc,hx⟩)
end
end Dd
namespace Dd
open PySem L2 K07 K23
noncomputable def placesL (r:List Int):List Nat:=(List.range (r.length - 1)).filter fun p=>decide (slowAt r p)
noncomputable abbrev plD (l:List Nat):List D:=l.map fun(p:Nat)=>D.int (p:Int)
theorem zfg {r:List Int}{p:Nat}:p∈placesL r↔slowAt r p:=by
 unfold placesL;rw[xcw,xcj,xhh];refine⟨fun h=>h.2,fun h=>⟨?_,h⟩⟩;obtain⟨a,b,_,e,_⟩:=h;have:=(xbc.mp e).1;lia
theorem zhm {st:Store}{l:List (List Int)}(hr:∀r∈l,r.length<=1000):zbt [sumD l,sumD l] st=.ok (.bl true) st:=by
 have W:=zpg (bd:=gN 2) (body:=zch) (xs:=rowsD l) (σ:=[some (sumD l),some (sumD l),none]) (st:=st) (fun i σ s=>s=st/\∃v,σ=[some (sumD l),some (sumD l),v]) ⟨rfl,none,rfl⟩ (by
   rintro i y σ s hy ⟨rfl,v,rfl⟩;obtain⟨r,hk,rfl⟩:=zca hy;have hrl:=hr r (xbs hk);have V:=zjh (bd:=gN 0) (c:=bYes) (f:=eOr (eNot (eCall bIsinst (aCons (eVar 0) (aCons (eC (.ty "int")) aNil)))) (eCall bIsinst (aCons (eVar 0) (aCons (eC (.ty "bool")) aNil)))) (xs:=r.map D.int) (σ:=[none]) (st:=s)
    (fun i acc σ s'=>s'=s/\(∃v,σ=[v])/\acc=(r.take i).map fun _=>D.bl false) ⟨rfl,⟨none,rfl⟩,rfl⟩ (by
     rintro i y acc σ s' hy ⟨rfl,⟨v,rfl⟩,rfl⟩;rw[xck] at hy;cases hx:r[i]? with
     | none=>rw[hx] at hy;cases hy
     | some x =>
      rw[hx] at hy;cases hy;refine⟨[some (.int x)],true,s',rfl,rfl,.inr ⟨rfl,.bl false,s',rfl,rfl,⟨_,rfl⟩,?_⟩⟩;rw[zo hx]
      simp)
   obtain⟨ys,σ',st',e,rfl,_,rfl⟩:=V;rw[zfc,xda] at e;have ec:eComp (iSeq (eVar 2)) 1 [] (gN 0) bYes (eOr (eNot (eCall bIsinst (aCons (eVar 0) (aCons (eC (.ty "int")) aNil)))) (eCall bIsinst (aCons (eVar 0) (aCons (eC (.ty "bool")) aNil)))) [some (sumD l), some (sumD l), some (rowD r)] st'=.ok (.lst (r.map fun _=>D.bl false)) st':=by
    rw[zhr];show(if(r.map D.int).length<=sizeLine then _ else _)=_;rw[if_pos (by rw[zfc];exact small _ (by lia))];show((compF _ _ _ _ [none] _).bind _)=_;rw[e]
    rfl
   have eb:bAny false [.lst (r.map fun _=>D.bl false)] st'=.ok (.bl false) st':=by
    have:asBools (r.map fun _=>D.bl false)=some (r.map fun _=>false):=by
     clear e ec hrl hk hy
     induction r with
     | nil=>rfl
     | cons a r ih=>rw[xbq,asBools,ih];rfl
    unfold bAny;simp[this]
   refine⟨[some (sumD l),some (sumD l),some (rowD r)],[some (sumD l),some (sumD l),some (rowD r)],st',rfl,?_,rfl,_,rfl⟩;unfold zch;have t1:bNot (eTru (eCall bIsinst (aCons (eVar 2) (aCons (eC (.ty "tuple")) aNil)))) [some (sumD l), some (sumD l), some (rowD r)] st'=.ok false st':=rfl
   have t2:eTru (eCall (bAny false) (aCons (eComp (iSeq (eVar 2)) 1 [] (gN 0) bYes (eOr (eNot (eCall bIsinst (aCons (eVar 0) (aCons (eC (.ty "int")) aNil)))) (eCall bIsinst (aCons (eVar 0) (aCons (eC (.ty "bool")) aNil))))) aNil)) [some (sumD l), some (sumD l), some (rowD r)] st'=.ok false st':=by
    rw[zph,zdy,zgh,ec];show((bAny false [.lst (r.map fun _=>D.bl false)] st').bind _)=_;rw[eb]
    rfl
   rw[zbap,zbjd,t1,zy,if_neg (by decide),t2]
   rfl)
 obtain⟨σ',st',e,rfl,v,rfl⟩:=W;refine zeh rfl ?_;refine seqN (σ1:=[some (sumD l),some (sumD l),none]) (st1:=st') ?_ ?_
 ·have t1:bNot (eTru (eCall bIsinst (aCons (eVar 0) (aCons (eC (.ty "tuple")) aNil)))) [some (sumD l), some (sumD l), none] st'=.ok false st':=rfl
  have t2:eB (eOp oNe (eVar 0) (eVar 1)) [some (sumD l),some (sumD l),none] st'=.ok false st':=by
   rw[eB_v,zbka];show((oNe (sumD l) (sumD l) st').bind _)=_;rw[show oNe (sumD l) (sumD l) st'=_ from zbcc l l];simp
  show sIf _ _ _ [some (sumD l),some (sumD l),none] st'=_;rw[zbap,zbjd,t1,zy,if_neg (by decide),t2]
  rfl
 refine seqN (σ1:=[some (sumD l),some (sumD l),v]) (st1:=st') ?_ rfl;rw[zwg];exact e
noncomputable def momR:Int->List Int->Int
 | _,[]=>0
 | n,x::xs=>n * x+momR (n+1) xs
theorem zcy:∀(a b:List Int) (n:Int),momR n (a++b)=momR n a+momR (n+a.length) b
 | [],b,n=>by simp[momR]
 | x::a,b,n=>by
  rw[List.cons_append,momR,momR,zcy a b (n+1),xbv,show n+1+(a.length:Int)=n+((a.length+1:Nat):Int) by push_cast;lia];lia
theorem zve:∀(a:List Int) (n:Int),momR (n+1) a=momR n a+a.sum
 | [],n=>by simp[momR]
 | x::a,n=>by
  rw[momR,momR,zve a (n+1),xgs,xjv];lia
noncomputable def prodL:Int->List Int->List Int
 | _,[]=>[]
 | n,x::xs=>n * x::prodL (n+1) xs
theorem znl:∀(a:List Int) (n:Int),(prodL n a).sum=momR n a
 | [],n=>rfl
 | x::a,n=>by rw[prodL,xgs,znl a,momR]
theorem zkw:∀(a:List Int) (x n:Int),prodL n (a++[x])=prodL n a++[(n+a.length) * x]
 | [],x,n=>by simp[prodL]
 | y::a,x,n=>by
  rw[List.cons_append,prodL,prodL,zkw a x (n+1),xbv,show n+1+(a.length:Int)=n+((a.length+1:Nat):Int) by push_cast;lia]
  rfl
theorem zzk {st:Store}{ns:List Int}:bSum [.lst (ns.map .int)] st=.ok (.int ns.sum) st:=by
 unfold bSum
 show(match ((some (ns.map D.int)).bind asInts) with
  | some ns=>Res.ok (D.int ns.sum) st
  | none=>.stuck)=_
 rw[Option.bind_some,zhy]
theorem zbcm {s:Store}{I x:Int}(m:CMul I x):eOp oMulI (eVar 0) (eVar 1) [some (.int I),some (.int x)] s=.ok (.int (I * x)) s:=by simp[m]
theorem mo_g {I x:Int}{v w:Option D}:gT 2 (gsCons (gN 0) (gsCons (gN 1) gsNil)) (.tup [.int I,.int x]) [v,w]=some [some (.int I),some (.int x)]:=rfl
theorem zbcn {st:Store}{r:List Int}(hr:∀x∈r,-10000<=x/\x<=10000):compF (gT 2 (gsCons (gN 0) (gsCons (gN 1) gsNil))) bYes (eOp oMulI (eVar 0) (eVar 1)) (numF 1 (r.map .int)) [none,none] st=.ok ((prodL 1 r).map D.int) st:=by
 have W:=zjh (bd:=gT 2 (gsCons (gN 0) (gsCons (gN 1) gsNil))) (c:=bYes) (f:=eOp oMulI (eVar 0) (eVar 1)) (xs:=numF 1 (r.map .int)) (σ:=[none,none]) (st:=st)
  (fun i acc σ s=>s=st/\(∃v w:Option D,σ=[v,w])/\acc=(prodL 1 (r.take i)).map D.int) ⟨rfl,⟨none,none,rfl⟩,rfl⟩ (by
   rintro i y acc σ s hy ⟨rfl,⟨v,w,rfl⟩,rfl⟩;obtain⟨d,h1,rfl⟩:=zmf hy;rw[xck] at h1;obtain⟨x,hx,rfl⟩:=xcs.mp h1;have hb:=hr x (xbs hx);have hi:=(xbc.mp hx).1;have m:CMul (1+(i:Int)) x:=mulR hb.1 hb.2;refine⟨[some (.int (1+(i:Int))),some (.int x)],true,s,mo_g,rfl,.inr ⟨rfl,.int ((1+(i:Int)) * x),s,zbcm m,rfl,⟨_,_,rfl⟩,?_⟩⟩;rw[zo hx,zkw,xdw,xco,xdv (by lia)]
   simp)
 obtain⟨ys,σ',st',e,rfl,_,rfl⟩:=W;rw[zec,xbd,xda] at e;exact e
theorem ztj {st:Store}{r:List Int}(hl:r.length<=1000)(hr:∀x∈r,-10000<=x/\x<=10000):zey [rowD r] st=.ok (.int (momR 1 r)) st:=by
 have e:=zbcn (st:=st) hr;refine zeh rfl ?_;have hln:(numF 1 (r.map D.int)).length<=sizeLine:=by rw[zec,xbd];exact small _ (by lia)
 have e1:iEnum (eVar 0) [some (rowD r)] st=.ok (numF 1 (r.map D.int)) st:=rfl;have e2:eComp (iEnum (eVar 0)) 2 [] (gT 2 (gsCons (gN 0) (gsCons (gN 1) gsNil))) bYes (eOp oMulI (eVar 0) (eVar 1)) [some (rowD r)] st=.ok (.lst ((prodL 1 r).map D.int)) st:=by
  rw[zhr,e1,zy,if_pos hln];show((compF _ _ _ _ [none,none] st).bind _)=_;rw[e]
  rfl
 show sRet _ [some (rowD r)] st=_;rw[zpw,zdy,zgh,e2,zy,zbet,zy,zy,zzk,zy,znl]
theorem zsx {st:Store}{r:List Int}(hl:r.length<=1000):zhz [rowD r] st=.ok (.lst (plD (placesL r))) st:=by
 have W:=zjh (bd:=gN 0) (c:=eTru (eCall zbn (aCons (eVar 1) (aCons (eVar 0) aNil)))) (f:=eVar 0) (xs:=rng 0 (r.length - 1)) (σ:=[none,some (rowD r)]) (st:=st)
  (fun i acc σ s=>s=st/\(∃w:Option D,σ=[w,some (rowD r)])/\acc=plD ((List.range i).filter fun p=>decide (slowAt r p))) ⟨rfl,⟨none,rfl⟩,rfl⟩ (by
   rintro i y acc σ s hy ⟨rfl,⟨w,rfl⟩,rfl⟩;obtain⟨hi,rfl⟩:=zwi hy;rw[xhn];refine⟨[some (.int i),some (rowD r)],decide (slowAt r i),s,rfl,?_,?_⟩
   ·rw[zph,zdy];show((zbn [rowD r,.int i] s).bind _)=_;rw[zjb,xgf,show decide (0<=(i:Int)/\slowAt r i)=decide (slowAt r i) by simp]
    rfl
   ·rw[xhy,xdu];by_cases c:slowAt r i
    ·refine .inr ⟨xcc c,.int i,s,rfl,rfl,⟨_,rfl⟩,?_⟩;simp[plD,c]
    ·refine .inl ⟨xby c,rfl,⟨_,rfl⟩,?_⟩
     simp[plD,c])
 obtain⟨ys,σ',st',e,rfl,_,rfl⟩:=W;rw[zcc] at e;refine zeh rfl ?_;have hr:RngOk ((r.length:Int) - 1):=rngN (by lia) (by lia);have hln:(rng 0 (r.length - 1)).length<=sizeLine:=by rw[zcc];exact small _ (by lia)
 have e1:iR1 (aCons (eOp oSub (eCall bLen (aCons (eVar 0) aNil)) (eC (.int 1))) aNil) [some (rowD r)] st'=.ok (rng 0 (r.length - 1)) st':=by
  have e2:=zrr (st:=st') (r:=r);have e3:((r.length:Int) - 1).toNat=r.length - 1:=by lia
  generalize (r.length:Int)=N at *
  simp only[rowD] at *
  generalize D.tup (r.map D.int)=R at *
  simp[e2,hr,e3]
 show sRet _ [some (rowD r)] st'=_;rw[zpw,zhr,e1,zy,if_pos hln];show((compF _ _ _ _ [none,some (rowD r)] st').bind _).bind _=_;rw[e]
 rfl
theorem zbcd {st:Store}{ns:List Int}:oEqG false (.lst (ns.map .int)) (.lst []) st=.ok (.bl (decide (ns=[]))) st:=by
 unfold oEqG
 rw[show dataOf st (.lst (ns.map .int))=some (.list (dI ns)) by
  show(toDatas (ns.map .int)).map PyData.list=_
  rw[zog];rfl,show dataOf st (.lst [])=some (.list (dI [])) from rfl]
 dsimp only;rw[if_pos ⟨zjf ns,zjf []⟩];have e:PyData.eqv (.list (dI ns)) (.list (dI []))=decide (ns=[]):=zzc ns [];rw[e]
 rfl
theorem zqs {r z:List Int}{p:Nat}(hp:∀x∈r,1<=x)(hs:slowAt r p)(hz:z∈exRow r p):momR 1 z < momR 1 r:=by
 obtain⟨a,b,g1,g2,hab⟩:=hs;have l1:p+1 < r.length:=(xbc.mp g2).1;have hb:=hp b (xbs g2);have ha:=hp a (xbs g1);unfold exRow at hz;obtain⟨two,h2,rfl⟩:=xcb.mp hz;have h3:=(zn _).mem_iff.mp h2;rw[xbh,g1,xbh,g2] at h3;simp only[xkn] at h3;unfold rowsL at h3;obtain⟨c,h4,h5⟩:=xcb.mp h3;have h6:c < (a / 2+1).toNat:=xcj.mp (xcw.mp h4).1;have hr:r=r.take p++[a,b]++r.drop (p+2):=by
  have e1:r.drop p=a::r.drop (p+1):=by
   rw[xcu (by lia)]
   congr 1
   exact(xbc.mp g1).2
  have e2:r.drop (p+1)=b::r.drop (p+2):=by
   rw[xcu (by lia)]
   congr 1
   exact(xbc.mp g2).2
  calc r=r.take p++r.drop p:=(xej p r).symm
   _=_:=by rw[e1,e2];simp
 have hd:0<=(r.drop (p+2)).sum:=zcn fun x hx=>hp x (xgg hx)
 have key:momR 1 (r.take p++two++r.drop (p+2)) < momR 1 (r.take p++[a,b]++r.drop (p+2)):=by
  rw[xcg,xcg,zcy,zcy (r.take p)];generalize (1:Int)+((r.take p).length:Int)=N;rw[zcy,zcy];generalize r.drop (p+2)=d at hd;rw[← h5];unfold rowC;split
  ·rename_i hc;simp only[momR,xbv,xgv];rw[Int.mul_sub,Int.mul_add,xjv,xjv];lia
  ·rename_i hc;have:(c:Int)=0:=by lia
   simp only[momR,xbv,xgv];have e:=zve d (N+1);rw[show N+((0+1+1:Nat):Int)=N+1+1 by push_cast;lia,show N+((0+1:Nat):Int)=N+1 by push_cast;lia,e,Int.mul_add,xjv];lia
 rw[← hr] at key;exact key
end Dd
namespace Dd
open PySem L2
theorem zoa {α:Type}(l:List α):(l.filter fun _=>true)=l:=xjs.mpr (by simp)
section
variable {st:Store}{n:Nat}{Q:D->Store->Prop}
end
section
variable {k:Nat}{d:D}{st:Store}
end
section
variable {k:Nat}{d:D}{st:Store}{Q:D->Store->Prop}
end
section
variable {k:Nat}{d:D}{st:Store}{Q:D->Store->Prop}
end
section
variable {st:Store}{n:Nat}{Q:D->Store->Prop}
end
section
variable {st:Store}{n:Nat}{Q:D->Store->Prop}
end
section
variable {k:Nat}{d:D}{st:Store}
end
section
variable {st:Store}{Q:D->Store->Prop}
end
section
variable {st:Store}{k:Nat}{d:D}{m:Int}{Q:D->Store->Prop}
end
end Dd
namespace Dd
open PySem L2 K07 K23
theorem zgo {r:List Int}{p:Nat}{m:Int}{L:Nat}(h:RowOk r m L)(hs:slowAt r p):∀z∈exRow r p,RowOk z m L:=fun z hz=>by
 obtain⟨a,b,g1,g2,hab⟩:=hs;have l1:p+1 < r.length:=(xbc.mp g2).1;have hb:=h.pos b (xbs g2);have ha:=h.pos a (xbs g1);unfold exRow at hz;obtain⟨two,h2,rfl⟩:=xcb.mp hz;have h3:=(zn _).mem_iff.mp h2;rw[xbh,g1,xbh,g2] at h3;simp only[xkn] at h3;unfold rowsL at h3;obtain⟨c,h4,h5⟩:=xcb.mp h3;have h6:c < (a / 2+1).toNat:=xcj.mp (xcw.mp h4).1;have hr:r=r.take p++[a,b]++r.drop (p+2):=by
  have e1:r.drop p=a::r.drop (p+1):=by
   rw[xcu (by lia)]
   congr 1
   exact(xbc.mp g1).2
  have e2:r.drop (p+1)=b::r.drop (p+2):=by
   rw[xcu (by lia)]
   congr 1
   exact(xbc.mp g2).2
  calc r=r.take p++r.drop p:=(xej p r).symm
   _=_:=by rw[e1,e2];simp
 have t1:two.sum=a+b/\(∀x∈two,1<=x)/\two.length<=2:=by
  rw[← h5];unfold rowC;split
  ·rename_i hc;refine⟨by simp<;>lia,fun x hx=>?_,by simp⟩;simp only[xbr,xkm,or_false] at hx;rcases hx with rfl | rfl<;>lia
  ·rename_i hc;refine⟨by simp<;>lia,fun x hx=>?_,by simp⟩;simp only[xbr,xkm,or_false] at hx;subst hx;lia
 have hsum:r.sum=(r.take p).sum+(a+b)+(r.drop (p+2)).sum:=by
  conv=>lhs;rw[hr]
  simp[xgy];lia
 refine⟨fun x hx=>?_,?_,?_⟩
 ·rcases xch.mp hx with hx | hx
  ·rcases xch.mp hx with hx | hx
   ·exact h.pos x (xhv hx)
   ·exact t1.2.1 x hx
  ·exact h.pos x (xgg hx)
 ·have:=h.sum;rw[xgy,xgy,t1.1];lia
 ·have h7:=h.len;rw[xbp,xbp,xco,xer];have:=t1.2.2;lia
theorem zwh {r:List Int}{m:Int}{L:Nat}(h:RowOk r m L):∀x∈r,1<=x/\x<=m:=fun x hx=>by
 refine⟨h.pos x hx,?_⟩;have:∀{r:List Int},(∀y∈r,1<=y)->∀x∈r,x<=r.sum:=fun {r}=>by
  induction r with
  | nil=>intro _ x hx;cases hx
  | cons a r ih =>
   intro h x hx;have h1:=h a (by simp);have h2:0<=r.sum:=zcn fun y hy=>h y (xbm _ hy)
   rw[xgs];rcases xbr.mp hx with rfl | hx
   ·lia
   ·have:=ih (fun y hy=>h y (xbm _ hy)) x hx;lia
 exact xkl (this h.pos x hx) h.sum
theorem zks {r:List Int}{m:Int}{L p:Nat}(h:RowOk r m L)(hs:slowAt r p):(1<=r.getD p 0/\r.getD p 0<=m)/\(1<=r.getD (p+1) 0/\r.getD (p+1) 0<=m):=by
 obtain⟨a,b,g1,g2,_⟩:=hs;rw[xbh,g1,xbh,g2];exact⟨zwh h a (xbs g1),zwh h b (xbs g2)⟩
noncomputable abbrev Lv:=List (Int×Nat×List (List Int))
noncomputable def lvD (lv:Lv):List (Int×D):=lv.map fun q=>(q.1,.ref q.2.1)
structure LvAt (st:Store) (L:Nat) (lv:Lv):Prop where
 at_:st[L]?=some (.dI (lvD lv))
 in_:∀q∈lv,st[q.2.1]?=some (.dT (trueD q.2.2))
 nd:(lv.map (·.1)).Nodup
 ix:(lv.map (·.2.1)).Nodup
 rows:∀q∈lv,q.2.2.Nodup
noncomputable def flipLv (n:Nat) (r:List Int):Lv->Lv
 | []=>[(momR 1 r,n,[r])]
 | q::lv=>if q.1=momR 1 r then(q.1,q.2.1,flipL q.2.2 r)::lv else q::flipLv n r lv
theorem zpn {lv:Lv}{m:Int}:valI (lvD lv) m=(lv.find? fun q=>decide (q.1=m)).map fun q=>D.ref q.2.1:=by
 induction lv with
 | nil=>rfl
 | cons q lv ih =>
  by_cases e:q.1=m
  ·simp[valI,lvD,e]
  ·have e1:valI (lvD (q::lv)) m=valI (lvD lv) m:=by simp[valI,lvD,e]
   rw[e1,ih,List.find?_cons_of_neg (by simpa using e)]
theorem zje {n:Nat}{r:List Int}:∀{lv:Lv},(∀q∈lv,q.1≠momR 1 r)->flipLv n r lv=lv++[(momR 1 r,n,[r])]
 | [],_=>rfl
 | q::lv,h=>by
  unfold flipLv;rw[if_neg (h q (by simp)),zje fun x hx=>h x (xbm _ hx)]
  rfl
theorem zjd {n:Nat}{r:List Int}:∀{lv:Lv} {q:Int×Nat×List (List Int)},(lv.map (·.1)).Nodup->q∈lv->q.1=momR 1 r->flipLv n r lv=lv.map fun x=>if x.1=momR 1 r then(x.1,x.2.1,flipL x.2.2 r) else x
 | [],q,_,h,_=>by cases h
 | x::lv,q,nd,h,e=>by
  rw[xbq,xdn] at nd;unfold flipLv;rw[xbq];by_cases c:x.1=momR 1 r
  ·rw[if_pos c,if_pos c]
   congr 1
   symm
   refine(xfe (g:=id) fun y hy=>?_).trans (List.map_id _);rw[if_neg fun z=>nd.1 (xcb.mpr ⟨y,hy,z.trans c.symm⟩)]
   rfl
  ·rw[if_neg c,if_neg c];rcases xbr.mp h with rfl | h
   ·exact absurd e c
   ·rw[zjd nd.2 h e]
section
variable {σ:DS}{st st2:Store}{f:SE}{g:SA}{L:Nat}{k:Int}{d v:D}{kv0 kvs:List (Int×D)}
theorem zpu (hf:f σ st=.ok (.ref L) st)(h0:st[L]?=some (.dI kv0))(hg:g σ st=.ok [.int k,d] st2)(h1:st2[L]?=some (.dI kvs))(hl:kvs.length < sizeLine)(hv:valI kvs k=some v):eSetDI f g σ st=.ok v st2:=by
 unfold eSetDI;rw[hf,zy];dsimp only;rw[h0];dsimp only;rw[hg,zy]
 try dsimp only
 rw[h1]
 try dsimp only
 rw[if_pos hl,hv]
theorem zpv (hf:f σ st=.ok (.ref L) st)(h0:st[L]?=some (.dI kv0))(hg:g σ st=.ok [.int k,d] st2)(h1:st2[L]?=some (.dI kvs))(hl:kvs.length < sizeLine)(hv:valI kvs k=none):eSetDI f g σ st=.ok d (st2.set L (.dI (putI kvs k d))):=by
 unfold eSetDI;rw[hf,zy];dsimp only;rw[h0];dsimp only;rw[hg,zy]
 try dsimp only
 rw[h1]
 try dsimp only
 rw[if_pos hl,hv]
end
theorem zqr {α β:Type}{f:α->β}:∀{l:List α},(l.map f).Nodup->∀{x y:α},x∈l->y∈l->f x=f y->x=y
 | [],_,x,y,hx,_,_=>by cases hx
 | a::l,nd,x,y,hx,hy,e=>by
  rw[xbq,xdn] at nd;rcases xbr.mp hx with h1 | h1
  ·rcases xbr.mp hy with h2 | h2
   ·rw[h1,h2]
   ·exact absurd (xcb.mpr ⟨y,h2,by rw[← e,h1]⟩) nd.1
  ·rcases xbr.mp hy with h2 | h2
   ·exact absurd (xcb.mpr ⟨x,h1,by rw[e,h2]⟩) nd.1
   ·exact zqr nd.2 h1 h2 e
theorem zgg {st:Store}{L:Nat}{lv:Lv}{r:List Int}{Q:D->Store->Prop}(h:LvAt st L lv)(hl:r.length<=1000)(hr:∀x∈r,-10000<=x/\x<=10000)(hz:lv.length<=10000)(hk:∀q∈lv,q.2.2.length<=100000)
  (k:∀s,LvAt s L (flipLv st.length r lv)->(∀i,i < st.length->i≠L->(∀q∈lv,q.2.1≠i)->s[i]?=st[i]?)->st.length<=s.length->Q .non s):WP (zbz [.ref L,rowD r] st) Q:=by
 refine zsa rfl ?_;simp only[W,V,M];have em:=ztj (st:=st) hl hr;have eg:aCons (eCall zey (aCons (eVar 1) aNil)) (aCons eDNew aNil) [some (.ref L),some (rowD r)] st=.ok [.int (momR 1 r),.ref st.length] (st++[.dT []]):=by
  rw[zgh,show eCall zey (aCons (eVar 1) aNil) [some (.ref L),some (rowD r)] st=.ok (.int (momR 1 r)) st from em]
  rfl
 have hL:=zh h.at_;have keep:∀{i:Nat} {o:O},st[i]?=some o->(st++[O.dT []])[i]?=some o:=fun e=>by rw[xbf (zh e)];exact e
 have hlen:(lvD lv).length < sizeLine:=by unfold lvD;rw[xbd];exact smallT _ (by lia)
 cases hf:lv.find? fun q=>decide (q.1=momR 1 r) with
 | some q =>
  have hq:=xkf hf;have hqm:q.1=momR 1 r:=by simpa using List.find?_some hf
  have hqL:q.2.1≠L:=fun z=>by have:=h.in_ q hq;rw[z,h.at_] at this;cases this
  refine WP.of (zpu rfl h.at_ eg (keep h.at_) hlen (by rw[zpn,hf];rfl)) ?_;refine WP.of (znx (keep (h.in_ q hq)) (by have:=hk q hq;lia)) (k _ ?_ (fun i hi hiL hiq=>?_) (by rw[xcm,xbp];lia))
  ·rw[zjd h.nd hq hqm];refine⟨?_,fun x hx=>?_,?_,?_,fun x hx=>?_⟩
   ·rw[xbi hqL,keep h.at_]
    congr 2
    unfold lvD;rw[xdr];refine(xfe fun y hy=>?_).symm;simp only[Function.comp];split<;>rfl
   ·obtain⟨y,hy,rfl⟩:=xcb.mp hx;by_cases c:y.1=momR 1 r
    ·have hyq:y=q:=zqr h.nd hy hq (c.trans hqm.symm);subst hyq;rw[if_pos c];exact zcx (zh (keep (h.in_ y hy)))
    ·rw[if_neg c];have hne:q.2.1≠y.2.1:=fun z=>c (by rw[← zqr h.ix hq hy z];exact hqm)
     rw[xbi hne];exact keep (h.in_ y hy)
   ·rw[xdr];have:(lv.map ((fun x=>x.1) ∘ fun x=>if x.1=momR 1 r then(x.1,x.2.1,flipL x.2.2 r) else x))=lv.map (·.1):=xfe fun y _=>by simp only[Function.comp];split<;>rfl
    rw[this];exact h.nd
   ·rw[xdr];have:(lv.map ((fun x=>x.2.1) ∘ fun x=>if x.1=momR 1 r then(x.1,x.2.1,flipL x.2.2 r) else x))=lv.map (·.2.1):=xfe fun y _=>by simp only[Function.comp];split<;>rfl
    rw[this];exact h.ix
   ·obtain⟨y,hy,rfl⟩:=xcb.mp hx;split
    ·exact zck (h.rows y hy)
    ·exact h.rows y hy
  ·rw[xbi (hiq q hq),xbf hi]
 | none =>
  have hn:∀q∈lv,q.1≠momR 1 r:=fun q hq=>by simpa using List.find?_eq_none.mp hf q hq
  have hp:putI (lvD lv) (momR 1 r) (.ref st.length)=lvD (lv++[(momR 1 r,st.length,[r])]):=by
   unfold putI;rw[if_neg]
   ·unfold lvD;rw[xdw];rfl
   ·rw[Bool.not_eq_true,List.any_eq_false];intro x hx;obtain⟨y,hy,rfl⟩:=xcb.mp hx
    simpa using hn y hy
  have hLn:L≠st.length:=xca hL;refine WP.of (zpv rfl h.at_ eg (keep h.at_) hlen (by rw[zpn,hf];rfl)) ?_;rw[hp];have h3:((st++[O.dT []]).set L (.dI (lvD (lv++[(momR 1 r,st.length,[r])]))))[st.length]?=some (.dT (trueD [])):=by
   rw[xbi hLn,xcr (xbg _),xig];rfl
  refine WP.of (znx h3 (by simp)) (k _ ?_ (fun i hi hiL hiq=>?_) (by rw[xcm,xcm,xbp];lia))
  ·rw[zje hn,show flipL [] r=[r] from rfl];have lt2:∀q∈lv,q.2.1 < st.length:=fun q hq=>zh (h.in_ q hq)
   refine⟨?_,fun x hx=>?_,?_,?_,fun x hx=>?_⟩
   ·rw[xbi hLn.symm,zcx (by rw[xbp];lia)]
   ·rcases xch.mp hx with hx | hx
    ·have h1:st.length≠x.2.1:=(xca (lt2 x hx)).symm;have h2:L≠x.2.1:=fun z=>by have:=h.in_ x hx;rw[← z,h.at_] at this;cases this
     rw[xbi h1,xbi h2];exact keep (h.in_ x hx)
    ·simp at hx;subst hx
     exact zcx (zh h3)
   ·rw[xdw,xhf];refine⟨h.nd,by simp,fun a ha b hb=>?_⟩;obtain⟨y,hy,rfl⟩:=xcb.mp ha;simp at hb;subst hb
    exact hn y hy
   ·rw[xdw,xhf];refine⟨h.ix,by simp,fun a ha b hb=>?_⟩;obtain⟨y,hy,rfl⟩:=xcb.mp ha;simp at hb;subst hb
    exact xca (lt2 y hy)
   ·rcases xch.mp hx with hx | hx
    ·exact h.rows x hx
    ·simp at hx;subst hx;simp
  ·rw[xbi (xca hi).symm,xbi hiL.symm,xbf hi]
noncomputable abbrev Lr:=List (Int×List (List Int))
noncomputable def lvR (lv:Lv):Lr:=lv.map fun q=>(q.1,q.2.2)
noncomputable def flipR (r:List Int):Lr->Lr
 | []=>[(momR 1 r,[r])]
 | q::lr=>if q.1=momR 1 r then(q.1,flipL q.2 r)::lr else q::flipR r lr
theorem zjy {n:Nat}{r:List Int}:∀{lv:Lv},lvR (flipLv n r lv)=flipR r (lvR lv)
 | []=>rfl
 | q::lv=>by
  unfold flipLv;show _=flipR r ((q.1,q.2.2)::lvR lv);unfold flipR;dsimp only;split
  ·rfl
  ·show(q.1,q.2.2)::lvR (flipLv n r lv)=_;rw[zjy]
noncomputable def nuM:List Nat->Nat->Nat
 | [],_=>0
 | t::ts,v=>bif Nat.beq v 0 then 0 else Nat.xor (bif Nat.beq (v % 2) 1 then t else 0) (nuM ts (v / 2))
noncomputable def nuT:List (List Nat):=[[],[2,0,16,32,0,0,256,1024,0,8192,0,32768,65536,0,262144,0,0,4194304,0,16777216,67108864,134217728,0,536870912,0,2147483648,0,0,17179869184,0,68719476736,0,549755813888,1099511627776,0,4398046511104,0,35184372088832,70368744177664,0,0,562949953421312,0,2251799813685248,9007199254740992,0,0,72057594037927936,144115188075855872,0,576460752303423488,0,4611686018427387904,0,36893488147419103232,73786976294838206464,0,0,590295810358705651712,0,2361183241434822606848,4722366482869645213696,0,37778931862957161709568,75557863725914323419136,0,0,604462909807314587353088,1208925819614629174706176,0,4835703278458516698824704,0,0,0,0,0,0,0,0,0,0,0,0,0],[4,8,32,0,384,1024,3072,16384,16384,131072,0,262144,1048576,2097152,0,25165824,33554432,134217728,536870912,1610612736,2147483648,0,25769803776,34359738368,34359738368,0,687194767360,1099511627776,3298534883328,0,4398046511104,35184372088832,175921860444160,281474976710656,281474976710656,0,3377699720527872,18014398509481984,36028797018963968,18014398509481984,0,144115188075855872,576460752303423488,1729382256910270464,9223372036854775808,0,18446744073709551616,36893488147419103232,0,885443715538058477568,1180591620717411303424,1180591620717411303424,9444732965739290427392,18889465931478580854784,0,75557863725914323419136,755578637259143234191360,1208925819614629174706176,3626777458843887524118528,0,4835703278458516698824704,0,0,0,0,0,0,0,0,0,0,0,0,0,0,0,0,0,0,0,0,0,0,0],[16,32,0,0,1024,0,32768,262144,262144,4194304,0,0,67108864,134217728,0,536870912,2147483648,0,0,68719476736,0,0,1099511627776,4398046511104,4398046511104,0,35184372088832,0,562949953421312,0,0,0,72057594037927936,144115188075855872,144115188075855872,0,576460752303423488,36893488147419103232,73786976294838206464,36893488147419103232,0,0,0,2361183241434822606848,37778931862957161709568,0,75557863725914323419136,0,0,1208925819614629174706176,4835703278458516698824704,4835703278458516698824704,0,0,0,0,0,0,0,0,0,0,0,0,0,0,0,0,0,0,0,0,0,0,0,0,0,0,0,0,0,0,0,0],[64,128,512,4096,8192,65536,393216,1048576,29360128,167772160,603979776,1342177280,2147483648,27917287424,38654705664,85899345920,687194767360,2336462209024,4947802324992,15393162788864,140737488355328,369435906932736,598134325510144,1266637395197952,1688849860263936,27021597764222976,72057594037927936,153122387330596864,450359962737049600,72057594037927936,288230376151711744,36893488147419103232,184467440737095516160,322818021289917153280,332041393326771929088,147573952589676412928,590295810358705651712,170005193383307227693056,321120920835135874531328,151115727451828646838272,113336795588871485128704,151115727451828646838272,604462909807314587353088,7253554917687775048237056,0,0,0,0,0,0,0,0,0,0,0,0,0,0,0,0,0,0,0,0,0,0,0,0,0,0,0,0,0,0,0,0,0,0,0,0,0,0,0,0],[256,1024,8192,65536,0,0,4194304,67108864,536870912,2147483648,0,85899345920,0,1099511627776,4947802324992,0,35184372088832,598134325510144,0,2814749767106560,72057594037927936,153122387330596864,0,648518346341351424,576460752303423488,36893488147419103232,0,0,627189298506124754944,0,590295810358705651712,0,604462909807314587353088,1322262615203500659834880,1208925819614629174706176,604462909807314587353088,0,0,0,0,0,0,0,0,0,0,0,0,0,0,0,0,0,0,0,0,0,0,0,0,0,0,0,0,0,0,0,0,0,0,0,0,0,0,0,0,0,0,0,0,0,0,0,0],[2048,16384,131072,1048576,2097152,33554432,134217728,2147483648,25769803776,0,687194767360,7696581394432,0,35184372088832,175921860444160,3659174697238528,0,162129586585337856,594475150812905472,1873497444986126336,36893488147419103232,27670116110564327424,885443715538058477568,1217485108864830406656,2066035336255469780992,18889465931478580854784,755578637259143234191360,1227815285546107755560960,3626777458843887524118528,755578637259143234191360,3626777458843887524118528,0,0,0,0,0,0,0,0,0,0,0,0,0,0,0,0,0,0,0,0,0,0,0,0,0,0,0,0,0,0,0,0,0,0,0,0,0,0,0,0,0,0,0,0,0,0,0,0,0,0,0,0,0],[32768,262144,4194304,67108864,134217728,2147483648,0,0,1099511627776,0,35184372088832,562949953421312,0,0,72057594037927936,720575940379279360,0,36893488147419103232,36893488147419103232,2361183241434822606848,0,113336795588871485128704,1208925819614629174706176,4835703278458516698824704,6044629098073145873530880,0,0,0,0,0,0,0,0,0,0,0,0,0,0,0,0,0,0,0,0,0,0,0,0,0,0,0,0,0,0,0,0,0,0,0,0,0,0,0,0,0,0,0,0,0,0,0,0,0,0,0,0,0,0,0,0,0,0,0],[524288,8388608,268435456,4294967296,8589934592,137438953472,274877906944,17592186044416,70368744177664,4503599627370496,9007199254740992,180143985094819840,2305843009213693952,4611686018427387904,46116860184273879040,959230691832896684032,4722366482869645213696,9444732965739290427392,793357569122100395900928,7555786372591432341913600,0,0,0,0,0,0,0,0,0,0,0,0,0,0,0,0,0,0,0,0,0,0,0,0,0,0,0,0,0,0,0,0,0,0,0,0,0,0,0,0,0,0,0,0,0,0,0,0,0,0,0,0,0,0,0,0,0,0,0,0,0,0,0,0],[16777216,536870912,17179869184,549755813888,1099511627776,35184372088832,70368744177664,9007199254740992,0,4611686018427387904,0,73786976294838206464,4722366482869645213696,0,37778931862957161709568,1208925819614629174706176,0,0,0,0,0,0,0,0,0,0,0,0,0,0,0,0,0,0,0,0,0,0,0,0,0,0,0,0,0,0,0,0,0,0,0,0,0,0,0,0,0,0,0,0,0,0,0,0,0,0,0,0,0,0,0,0,0,0,0,0,0,0,0,0,0,0,0,0],[1073741824,34359738368,2199023255552,140737488355328,281474976710656,18014398509481984,36028797018963968,9223372036854775808,18446744073709551616,9444732965739290427392,18889465931478580854784,75557863725914323419136,0,0,0,0,0,0,0,0,0,0,0,0,0,0,0,0,0,0,0,0,0,0,0,0,0,0,0,0,0,0,0,0,0,0,0,0,0,0,0,0,0,0,0,0,0,0,0,0,0,0,0,0,0,0,0,0,0,0,0,0,0,0,0,0,0,0,0,0,0,0,0,0],[68719476736,4398046511104,562949953421312,72057594037927936,144115188075855872,36893488147419103232,73786976294838206464,37778931862957161709568,75557863725914323419136,0,0,0,0,0,0,0,0,0,0,0,0,0,0,0,0,0,0,0,0,0,0,0,0,0,0,0,0,0,0,0,0,0,0,0,0,0,0,0,0,0,0,0,0,0,0,0,0,0,0,0,0,0,0,0,0,0,0,0,0,0,0,0,0,0,0,0,0,0,0,0,0,0,0,0],[8796093022208,1125899906842624,288230376151711744,147573952589676412928,295147905179352825856,151115727451828646838272,302231454903657293676544,0,0,0,0,0,0,0,0,0,0,0,0,0,0,0,0,0,0,0,0,0,0,0,0,0,0,0,0,0,0,0,0,0,0,0,0,0,0,0,0,0,0,0,0,0,0,0,0,0,0,0,0,0,0,0,0,0,0,0,0,0,0,0,0,0,0,0,0,0,0,0,0,0,0,0,0,0],[2251799813685248,576460752303423488,590295810358705651712,604462909807314587353088,1208925819614629174706176,0,0,0,0,0,0,0,0,0,0,0,0,0,0,0,0,0,0,0,0,0,0,0,0,0,0,0,0,0,0,0,0,0,0,0,0,0,0,0,0,0,0,0,0,0,0,0,0,0,0,0,0,0,0,0,0,0,0,0,0,0,0,0,0,0,0,0,0,0,0,0,0,0,0,0,0,0,0,0],[1152921504606846976,1180591620717411303424,2417851639229258349412352,0,0,0,0,0,0,0,0,0,0,0,0,0,0,0,0,0,0,0,0,0,0,0,0,0,0,0,0,0,0,0,0,0,0,0,0,0,0,0,0,0,0,0,0,0,0,0,0,0,0,0,0,0,0,0,0,0,0,0,0,0,0,0,0,0,0,0,0,0,0,0,0,0,0,0,0,0,0,0,0,0],[2361183241434822606848,4835703278458516698824704,0,0,0,0,0,0,0,0,0,0,0,0,0,0,0,0,0,0,0,0,0,0,0,0,0,0,0,0,0,0,0,0,0,0,0,0,0,0,0,0,0,0,0,0,0,0,0,0,0,0,0,0,0,0,0,0,0,0,0,0,0,0,0,0,0,0,0,0,0,0,0,0,0,0,0,0,0,0,0,0,0,0],[9671406556917033397649408,0,0,0,0,0,0,0,0,0,0,0,0,0,0,0,0,0,0,0,0,0,0,0,0,0,0,0,0,0,0,0,0,0,0,0,0,0,0,0,0,0,0,0,0,0,0,0,0,0,0,0,0,0,0,0,0,0,0,0,0,0,0,0,0,0,0,0,0,0,0,0,0,0,0,0,0,0,0,0,0,0,0,0]]
noncomputable def nuSt:List (List Int):=[[],[1],[2],[2,1],[3],[3,1],[4],[4,1],[5],[4,2],[5,1],[6],[4,2,1],[5,2],[6,1],[7],[5,2,1],[6,2],[7,1],[8],[6,2,1],[6,3],[7,2],[8,1],[9],[6,3,1],[7,2,1],[7,3],[8,2],[9,1],[10],[7,3,1],[8,2,1],[8,3],[9,2],[10,1],[11],[8,3,1],[8,4],[9,2,1],[9,3],[10,2],[11,1],[12],[8,4,1],[9,3,1],[9,4],[10,2,1],[10,3],[11,2],[12,1],[13],[8,4,2],[9,4,1],[10,3,1],[10,4],[11,2,1],[11,3],[12,2],[13,1],[14],[8,4,2,1],[9,4,2],[10,4,1],[10,5],[11,3,1],[11,4],[12,2,1],[12,3],[13,2],[14,1],[15],[9,4,2,1],[10,4,2],[10,5,1],[11,4,1],[11,5],[12,3,1],[12,4],[13,2,1],[13,3],[14,2],[15,1],[16]]
noncomputable def nuA (a v:Nat):Nat:=nuM (nuT.getD a []) v
theorem zjv:∀ts,nuM ts 0=0
 | []=>rfl
 | _::_=>rfl
theorem zcq (t:Nat)(ts:List Nat)(v:Nat):nuM (t::ts) v=(if v % 2=1 then t else 0) ^^^ nuM ts (v / 2):=by
 by_cases c:v=0
 ·subst c;rw[zjv,if_neg (by decide),Nat.zero_div,zjv];rfl
 ·have h1:Nat.beq v 0=false:=by
   cases h:Nat.beq v 0 with
   | false=>rfl
   | true=>exact absurd (xgb h) c
  have h2:(bif Nat.beq (v % 2) 1 then t else 0)=if v % 2=1 then t else 0:=by
   by_cases d:v % 2=1
   ·rw[if_pos d,d];rfl
   ·have:v % 2=0:=by lia
    rw[if_neg d,this];rfl
  show(bif Nat.beq v 0 then 0 else Nat.xor (bif Nat.beq (v % 2) 1 then t else 0) (nuM ts (v / 2)))=_;rw[h1,h2];rfl
theorem xor4 (a b c d:Nat):(a ^^^ b) ^^^ (c ^^^ d)=(a ^^^ c) ^^^ (b ^^^ d):=by
 rw[xea,xea,← xea b,← xea c,xko b c]
theorem zvb:∀(ts:List Nat) (v w:Nat),nuM ts (v ^^^ w)=nuM ts v ^^^ nuM ts w
 | [],v,w=>by show 0=0 ^^^ 0;rw[xkp]
 | t::ts,v,w=>by
  rw[zcq,zcq,zcq,Nat.xor_div_two,zvb ts,xor4]
  congr 1
  have:=Nat.xor_mod_two_eq_one (a:=v) (b:=w);by_cases c1:v % 2=1<;>by_cases c2:w % 2=1<;>simp[c1,c2,this]
theorem zqn {f:Nat->Nat}(h0:f 0=0)(hx:∀v w,f (v ^^^ w)=f v ^^^ f w):∀(ts:List Nat) (v:Nat),nuM (ts.map f) v=f (nuM ts v)
 | [],v=>h0.symm
 | t::ts,v=>by
  rw[xbq,zcq,zcq,hx,zqn h0 hx ts]
  congr 1
  split
  ·rfl
  ·exact h0.symm
theorem zva:∀(ts us:List Nat) (v:Nat),ts.length=us.length->nuM (List.zipWith Nat.xor ts us) v=nuM ts v ^^^ nuM us v
 | [],[],v,_=>by show 0=0 ^^^ 0;rw[xkp]
 | [],_::_,v,h=>by cases h
 | _::_,[],v,h=>by cases h
 | t::ts,u::us,v,h=>by
  show nuM (Nat.xor t u::List.zipWith Nat.xor ts us) v=_;rw[zcq,zcq,zcq,zva ts us _ (by simpa using h),xor4]
  congr 1
  split
  ·rfl
  ·rfl
theorem zvc:∀(ts:List Nat) (i:Nat),nuM ts (2 ^ i)=ts.getD i 0
 | [],i=>by simp[nuM]
 | t::ts,0=>by rw[zcq];simp[zjv]
 | t::ts,i+1=>by
  rw[zcq,if_neg (by rw[Nat.pow_succ];lia),show 2 ^ (i+1) / 2=2 ^ i by rw[Nat.pow_succ];lia,zvc ts i,xjl]
  rfl
theorem zmg (a:Nat):nuA a 0=0:=zjv _
theorem zqp (a v w:Nat):nuA a (v ^^^ w)=nuA a v ^^^ nuA a w:=zvb _ _ _
noncomputable def nuF (r:List Int) (v:Nat):Nat:=r.foldr (fun a v=>nuA a.toNat v) v
noncomputable def nu (r:List Int):Nat:=nuF r 1
noncomputable def nuS (l:List (List Int)):Nat:=l.foldr (fun r x=>nu r ^^^ x) 0
theorem zff (r s:List Int)(v:Nat):nuF (r++s) v=nuF r (nuF s v):=by unfold nuF;rw[List.foldr_append]
theorem zqo:∀r,nuF r 0=0
 | []=>rfl
 | a::r=>by show nuA _ (nuF r 0)=0;rw[zqo r,zmg]
theorem zvd:∀r v w,nuF r (v ^^^ w)=nuF r v ^^^ nuF r w
 | [],_,_=>rfl
 | a::r,v,w=>by show nuA _ (nuF r _)=nuA _ (nuF r v) ^^^ nuA _ (nuF r w);rw[zvd r,zqp]
theorem zcp:∀l m,nuS (l++m)=nuS l ^^^ nuS m
 | [],m=>(xjl _).symm
 | r::l,m=>by show nu r ^^^ nuS (l++m)=(nu r ^^^ nuS l) ^^^ nuS m;rw[zcp l m,xea]
theorem zjt {l m:List (List Int)}(h:l.Perm m):nuS l=nuS m:=by
 induction h with
 | nil=>rfl
 | @cons x a b _ ih=>show nu x ^^^ nuS a=nu x ^^^ nuS b;rw[ih]
 | swap x y l=>show nu y ^^^ (nu x ^^^ nuS l)=nu x ^^^ (nu y ^^^ nuS l);rw[← xea,← xea,xko (nu y)]
 | trans _ _ a b=>exact a.trans b
theorem zxh {l:List (List Int)}{r:List Int}(nd:l.Nodup):nuS (flipL l r)=nuS l ^^^ nu r:=by
 unfold flipL;split
 ·rename_i h;have:∀{l:List (List Int)},l.Nodup->r∈l->nuS (l.filter fun x=>decide (x≠r))=nuS l ^^^ nu r:=fun {l}=>by
   induction l with
   | nil=>intro _ h;cases h
   | cons a l ih =>
    intro nd h;rw[xdn] at nd;by_cases c:a=r
    ·subst c;have e:l.filter (fun x=>decide (x≠a))=l:=xjs.mpr fun x hx=>by
      rw[xhh];intro z;subst z;exact nd.1 hx
     rw[xdc (by simp),e];show nuS l=(nu a ^^^ nuS l) ^^^ nu a;rw[xko,← xea,xkp,xjl]
    ·rw[xdd (by simpa using c)];show nu a ^^^ nuS (l.filter fun x=>decide (x≠r))=(nu a ^^^ nuS l) ^^^ nu r;rw[ih nd.2 (by rcases xbr.mp h with z | z;exact absurd z.symm c;exact z),xea]
  exact this nd h
 ·rw[zcp];show nuS l ^^^ (nu r ^^^ 0)=_;rw[xjm]
theorem zju:∀(m l:List (List Int)),l.Nodup->nuS (m.foldl flipL l)=nuS l ^^^ nuS m
 | [],l,_=>(xjm _).symm
 | r::m,l,nd=>by
  rw[xib,zju m _ (zck nd),zxh nd];show _=nuS l ^^^ (nu r ^^^ nuS m);rw[xea]
theorem zqm (l:List (List Int)):nuS (oddS l)=nuS l:=by
 unfold oddS;rw[zjt (zn _)];unfold oddL;rw[zju l [] xfq];exact xjl _
noncomputable def mt2:List Int->List Nat
 | [x]=>nuT.getD x.toNat []
 | [x,y]=>(nuT.getD y.toNat []).map (nuA x.toNat)
 | _=>[]
noncomputable def twosN (a b n:Nat):List (List Int):=((List.range n).filter fun c=>Nat.beq (Nat.land (b - c - 1) (a - 2 * c)) (a - 2 * c)).map fun c=>if c=0 then[((a+b:Nat):Int)] else[((a+b - c:Nat):Int),(c:Int)]
noncomputable def nuChk (a b:Nat):Bool:=bif Nat.blt a (2 * b) then decide ((nuT.getD b []).map (nuA a)=(twosN a b (a / 2+1)).foldr (fun two m=>List.zipWith Nat.xor (mt2 two) m) (List.replicate 84 0)) else true
theorem zth:((List.range 17).all fun a=>(List.range (17 - a)).all fun b=>bif Nat.blt 0 a&&Nat.blt 0 b then nuChk a b else true)=true:=by decide +kernel
theorem zbcf:(nuT.all fun t=>Nat.beq t.length 84||Nat.beq t.length 0)=true/\((List.range 16).all fun i=>Nat.beq (nuT.getD (i+1) []).length 84)=true:=by decide +kernel
theorem zbcg {a:Nat}(h:1<=a)(h2:a<=16):(nuT.getD a []).length=84:=by
 have:=xdq.mp zbcf.2 (a - 1) (xcj.mpr (by lia));rw[show a - 1+1=a by lia] at this;exact xgb this
theorem znn:∀n v,nuM (List.replicate n 0) v=0
 | 0,_=>rfl
 | n+1,v=>by
  rw[List.replicate_succ,zcq,znn n];split<;>rfl
theorem zsj {a b n:Nat}{two:List Int}(h:two∈twosN a b n):(two=[((a+b:Nat):Int)])\/∃c:Nat,0 < c/\c < n/\two=[((a+b - c:Nat):Int),(c:Int)]:=by
 unfold twosN at h;obtain⟨c,hc,rfl⟩:=xcb.mp h;have hc:=xcj.mp (xcw.mp hc).1;by_cases z:c=0
 ·rw[if_pos z];exact .inl rfl
 ·rw[if_neg z];exact .inr ⟨c,by lia,hc,rfl⟩
theorem zbgz {a b:Nat}(ha:1<=a)(hb:1<=b)(hs:a+b<=16)(hab:a < 2 * b)(v:Nat):(twosN a b (a / 2+1)).foldr (fun two x=>nuF two v ^^^ x) 0=nuA a (nuA b v):=by
 have h:=zth;have h:=xdq.mp h a (xcj.mpr (by lia));have h:=xdq.mp h b (xcj.mpr (by lia));rw[show(Nat.blt 0 a&&Nat.blt 0 b)=true by rw[xdp];exact⟨xji (by lia),xji (by lia)⟩] at h;have h:nuChk a b=true:=h;unfold nuChk at h;rw[show Nat.blt a (2 * b)=true from xji (by lia)] at h;have h:=xdk h;have h2:=congrArg (fun m=>nuM m v) h;simp only[zqn (zmg a) (zqp a)] at h2;show _=nuA a (nuM (nuT.getD b []) v);rw[h2];have key:∀(tw:List (List Int)),(∀two∈tw,two∈twosN a b (a / 2+1))->nuM (tw.foldr (fun two m=>List.zipWith Nat.xor (mt2 two) m) (List.replicate 84 0)) v=tw.foldr (fun two x=>nuF two v ^^^ x) 0/\(tw.foldr (fun two m=>List.zipWith Nat.xor (mt2 two) m) (List.replicate 84 0)).length=84:=fun tw=>by
  induction tw with
  | nil=>intro _;exact⟨znn _ _,by simp⟩
  | cons two tw ih =>
   intro hm;obtain⟨i1,i2⟩:=ih fun t ht=>hm t (xbm _ ht)
   have e:(mt2 two).length=84/\nuM (mt2 two) v=nuF two v:=by
    rcases zsj (hm two (by simp)) with rfl | ⟨c,c0,c1,rfl⟩
    ·exact⟨zbcg (by simp;lia) (by simp;lia),rfl⟩
    ·refine⟨?_,?_⟩
     ·show((nuT.getD (c:Int).toNat []).map _).length=_;rw[xbd];exact zbcg (by simp;lia) (by simp;lia)
     ·show nuM ((nuT.getD (c:Int).toNat []).map _) v=_;rw[zqn (zmg _) (zqp _)];rfl
   rw[List.foldr_cons,List.foldr_cons];refine⟨?_,by rw[List.length_zipWith,e.1,i2];rfl⟩;rw[zva _ _ _ (by rw[e.1,i2]),e.2,i1]
 exact(key _ fun _ h=>h).1.symm
theorem zsq {a b:Nat}(ha:1<=a)(hb:1<=b)(hab:a < 2 * b):∀{n:Nat},n<=a / 2+1->rowsL a b n=twosN a b n:=fun {n} hn=>by
 unfold rowsL twosN;have e1:((List.range n).filter fun(c:Nat)=>oddW ((b:Int) - c - 1) ((a:Int) - 2 * c))=(List.range n).filter fun c=>Nat.beq (Nat.land (b - c - 1) (a - 2 * c)) (a - 2 * c):=by
  refine List.filter_congr fun c hc=>?_
  have hc:=xcj.mp hc;rw[show(b:Int) - c - 1=((b - c - 1:Nat):Int) by lia,show(a:Int) - 2 * c=((a - 2 * c:Nat):Int) by lia,zxe];generalize b - c - 1=x;generalize a - 2 * c=y;show decide (Nat.land x y=y)=_;cases h:Nat.beq (Nat.land x y) y with
  | true=>exact xcc (xgb h)
  | false=>exact xby (Nat.ne_of_beq_eq_false h)
 rw[e1];refine xfe fun c hc=>?_
 have hc:=xcj.mp (xcw.mp hc).1;unfold rowC;by_cases z:c=0
 ·subst z;rw[if_pos rfl,if_neg (by lia)];rfl
 ·rw[if_neg z,if_pos (by lia)]
  congr 1
  lia
theorem zuy {f:List Int->List Int}{g:List Int->Nat}(w:Nat)(r:List Int)(h:∀two,nu (f two)=nuF r (g two)):∀l:List (List Int),nuS (l.map f)=nuF r (l.foldr (fun two x=>g two ^^^ x) 0)
 | []=>(zqo r).symm
 | two::l=>by
  show nu (f two) ^^^ nuS (l.map f)=nuF r (g two ^^^ l.foldr (fun two x=>g two ^^^ x) 0);rw[zuy w r h l,zvd,h]
theorem zbch {r:List Int}{p:Nat}{L:Nat}(h:RowOk r 16 L)(hs:slowAt r p):nuS (exRow r p)=nu r:=by
 obtain⟨a,b,g1,g2,hab⟩:=hs;have l1:p+1 < r.length:=(xbc.mp g2).1;have ha:=h.pos a (xbs g1);have hb:=h.pos b (xbs g2);have hr:r=r.take p++([a,b]++r.drop (p+2)):=by
  have e1:r.drop p=a::r.drop (p+1):=by
   rw[xcu (by lia)]
   congr 1
   exact(xbc.mp g1).2
  have e2:r.drop (p+1)=b::r.drop (p+2):=by
   rw[xcu (by lia)]
   congr 1
   exact(xbc.mp g2).2
  calc r=r.take p++r.drop p:=(xej p r).symm
   _=_:=by rw[e1,e2];simp
 have hab16:a+b<=16:=by
  have h1:r.sum=(r.take p).sum+(a+(b+(r.drop (p+2)).sum)):=by
   conv=>lhs;rw[hr]
   rw[xgy,xgy];simp;lia
  have h2:=h.sum;have h3:0<=(r.take p).sum:=zcn fun x hx=>h.pos x (xhv hx)
  have h4:0<=(r.drop (p+2)).sum:=zcn fun x hx=>h.pos x (xgg hx)
  lia
 obtain⟨a,rfl⟩:=xfn (show 0<=a by lia);obtain⟨b,rfl⟩:=xfn (show 0<=b by lia);unfold exRow;rw[xbh,g1,xbh,g2];simp only[xkn];rw[zjt ((zn _).map _),show((a:Int) / 2+1).toNat=a / 2+1 by lia,zsq (by lia) (by lia) (by lia) (xbg _)];rw[zuy (g:=fun two=>nuF two (nuF (r.drop (p+2)) 1)) 0 (r.take p) fun two=>by unfold nu;rw[zff,zff]];rw[zbgz (by lia) (by lia) (by lia) (by lia)]
 conv=>rhs;rw[hr]
 unfold nu;rw[zff,zff];rfl
noncomputable def nuStep (i a:Nat):Bool:=match nuSt[i]? with
 | none=>true
 | some r=>bif decide ((a:Int)+r.sum<=16)&&decide (2 * r.headD 0<=(a:Int)) then(match nuSt[nuSt.idxOf ((a:Int)::r)]? with | some r'=>decide (r'=(a:Int)::r) | none=>false)&&Nat.beq ((nuT.getD a []).getD i 0) (2 ^ nuSt.idxOf ((a:Int)::r)) else true
theorem zql:((List.range 84).all fun i=>(List.range 17).all fun a=>bif Nat.beq a 0 then true else nuStep i a)=true:=by decide +kernel
theorem zux:nuSt.Nodup:=by decide +kernel
theorem zfy:nuSt.length=84:=by decide +kernel
noncomputable def Stp (r:List Int):Prop:=∀p,¬ slowAt r p
theorem zwb {r:List Int}(h:placesL r=[]):Stp r:=fun p hp=>by
 have:=zfg.mpr hp;rw[h] at this;cases this
theorem Stp.tail {a:Int}{r:List Int}(h:Stp (a::r)):Stp r:=fun p ⟨x,y,e1,e2,q⟩=>h (p+1) ⟨x,y,by simpa using e1,by simpa using e2,q⟩
theorem Stp.head {a:Int}{r:List Int}(h:Stp (a::r))(ha:1<=a):2 * r.headD 0<=a:=by
 cases r with
 | nil=>simp;lia
 | cons b r =>
  have:=h 0;refine Classical.byContradiction fun c=>this ⟨a,b,rfl,rfl,?_⟩
  simp at c;lia
theorem zjs {L:Nat}:∀{r:List Int},RowOk r 16 L->Stp r->∃i,nuSt[i]?=some r/\nu r=2 ^ i
 | [],_,_=>⟨0,by decide +kernel,rfl⟩
 | a::r,h,hs=>by
  have ha:=h.pos a (by simp);have hsum:=h.sum;rw[xgs] at hsum;have h2:0<=r.sum:=zcn fun x hx=>h.pos x (xbm _ hx)
  obtain⟨i,e1,e2⟩:=zjs (L:=L) (r:=r) ⟨fun x hx=>h.pos x (xbm _ hx),by lia,by have:=h.len;rw[xbv] at this;lia⟩ hs.tail;have hi:i < 84:=by have:=(xbc.mp e1).1;rw[zfy] at this;exact this
  have hh:=hs.head ha;obtain⟨a,rfl⟩:=xfn (show 0<=a by lia);have k:=xdq.mp (xdq.mp zql i (xcj.mpr hi)) a (xcj.mpr (by lia));rw[show Nat.beq a 0=false by cases z:Nat.beq a 0 with | false=>rfl | true=>have:=xgb z;lia] at k;have k:nuStep i a=true:=k;unfold nuStep at k;rw[e1] at k;have k:(bif decide ((a:Int)+r.sum<=16)&&decide (2 * r.headD 0<=(a:Int)) then(match nuSt[nuSt.idxOf ((a:Int)::r)]? with | some r'=>decide (r'=(a:Int)::r) | none=>false)&&Nat.beq ((nuT.getD a []).getD i 0) (2 ^ nuSt.idxOf ((a:Int)::r)) else true)=true:=k;rw[xcc (show(a:Int)+r.sum<=16 by lia),xcc hh] at k;simp only[Bool.and_true,cond_true] at k;rw[xdp] at k;obtain⟨k1,k2⟩:=k;refine⟨nuSt.idxOf ((a:Int)::r),?_,?_⟩
  ·cases z:nuSt[nuSt.idxOf ((a:Int)::r)]? with
   | none=>rw[z] at k1;cases k1
   | some r' =>
    rw[z] at k1;rw[xdk k1]
  ·show nuA _ (nu r)=_;rw[e2];show nuM (nuT.getD a []) (2 ^ i)=_;rw[zvc];exact xgb k2
noncomputable def StOk16 (l:List (List Int)):Prop:=∀r∈l,RowOk r 16 6/\Stp r
theorem zuz {l:List (List Int)}(h:StOk16 l){i:Nat}{x:List Int}(hx:nuSt[i]?=some x):(nuS l).testBit i=decide (l.count x % 2=1):=by
 induction l with
 | nil=>simp[nuS]
 | cons r l ih =>
  have ih:=ih fun y hy=>h y (xbm _ hy)
  obtain⟨j,e1,e2⟩:=zjs (h r (by simp)).1 (h r (by simp)).2;show(nu r ^^^ nuS l).testBit i=_;rw[Nat.testBit_xor,ih,e2,Nat.testBit_two_pow,List.count_cons];by_cases c:j=i
  ·subst c;rw[hx] at e1;cases e1;rw[xcc rfl,if_pos (by simp)];rcases Nat.mod_two_eq_zero_or_one (l.count x) with z | z
   ·rw[xby (by lia),xcc (by lia)];rfl
   ·rw[xcc z,xby (by lia)];rfl
  ·have:¬ r=x:=fun z=>by
    subst z;obtain⟨a1,a2⟩:=xbc.mp e1;obtain⟨b1,b2⟩:=xbc.mp hx;exact c ((xkg zux).mp (a2.trans b2.symm))
   simp[c,this]
noncomputable def stl (v:Nat):List (List Int):=sortR (((List.range 84).filter fun i=>v.testBit i).map fun i=>nuSt.getD i [])
theorem zbak {l:List (List Int)}(h:StOk16 l)(nd:l.Nodup):sortR l=stl (nuS l):=by
 unfold stl;refine zin (zfw nd ?_ fun x=>?_)
 ·refine List.Pairwise.map _ (R:=fun i j=>i≠j/\i < 84/\j < 84) ?_ ?_
  ·rintro i j ⟨h1,h2,h3⟩ e;rw[xbh,xbh,xbe (by rw[zfy];exact h2),xbe (by rw[zfy];exact h3)] at e;exact h1 ((xkg zux).mp e)
  ·refine List.Pairwise.imp_of_mem (R:=(·≠·)) (fun {a b} ha hb h=>⟨h,xcj.mp (xcw.mp ha).1,xcj.mp (xcw.mp hb).1⟩) (List.nodup_range.filter _)
 ·constructor
  ·intro hx;obtain⟨i,e1,e2⟩:=zjs (h x hx).1 (h x hx).2;have hi:i < 84:=by have:=(xbc.mp e1).1;rw[zfy] at this;exact this
   refine xcb.mpr ⟨i,xcw.mpr ⟨xcj.mpr hi,?_⟩,by rw[xbh,e1];rfl⟩;rw[zuz h e1,xkq nd,if_pos hx];rfl
  ·intro hx;obtain⟨i,hi,rfl⟩:=xcb.mp hx;obtain⟨hi,hb⟩:=xcw.mp hi;have hi:=xcj.mp hi;have e:nuSt[i]?=some (nuSt.getD i []):=by rw[xbh,xbe (by rw[zfy];exact hi)];rfl
   rw[zuz h e,xkq nd] at hb;by_cases c:nuSt.getD i []∈l
   ·exact c
   ·rw[if_neg c] at hb;simp at hb
theorem zns {α:Type}[DecidableEq α]:∀{l m:List α},l.Nodup->(∀x∈l,x∈m)->l.length<=m.length
 | [],m,_,_=>xef _
 | a::l,m,nd,h=>by
  rw[xdn] at nd;have h1:a∈m:=h a (by simp);have h2:=zns (l:=l) (m:=m.erase a) nd.2 fun x hx=>by
   refine(List.mem_erase_of_ne fun e=>?_).mpr (h x (xbm _ hx));subst e;exact nd.1 hx
  rw[List.length_erase_of_mem h1] at h2;have:0 < m.length:=List.length_pos_of_mem h1;rw[xbv];lia
noncomputable def allR:Nat->Nat->List (List Int)
 | 0,_=>[[]]
 | k+1,s=>[]::(List.range s).flatMap fun a=>(allR k (s - 1 - a)).map fun r=>((a+1:Nat):Int)::r
noncomputable def cntR:Nat->Nat->Nat
 | 0,_=>1
 | k+1,s=>1+((List.range s).map fun a=>cntR k (s - 1 - a)).sum
theorem zrw:∀k s,(allR k s).length=cntR k s
 | 0,_=>rfl
 | k+1,s=>by
  unfold allR cntR;rw[xbv,List.length_flatMap,Nat.add_comm]
  congr 2
  refine xfe fun a _=>?_
  rw[xbd,zrw k]
theorem zrv:∀(k s:Nat) (r:List Int),RowOk r s k->r∈allR k s
 | 0,s,r,h=>by
  have:=h.len;have:r=[]:=List.length_eq_zero_iff.mp (by lia);subst this;simp[allR]
 | k+1,s,[],_=>by simp[allR]
 | k+1,s,a::r,h=>by
  have ha:=h.pos a (by simp);have hs:=h.sum;rw[xgs] at hs;have hr:0<=r.sum:=zcn fun x hx=>h.pos x (xbm _ hx)
  obtain⟨a,rfl⟩:=xfn (show 0<=a by lia);unfold allR;refine xbm _ (List.mem_flatMap.mpr ⟨a - 1,xcj.mpr (by lia),xcb.mpr ⟨r,zrv k _ r ⟨fun x hx=>h.pos x (xbm _ hx),?_,?_⟩,?_⟩⟩)
  ·lia
  ·have:=h.len;rw[xbv] at this;lia
  ·rw[show a - 1+1=a by lia]
theorem zpy {l:List (List Int)}(nd:l.Nodup)(h:∀r∈l,RowOk r 16 6):l.length<=15000:=by
 have h1:=zns nd fun r hr=>zrv 6 16 r (h r hr)
 rw[zrw] at h1;have h2:Nat.ble (cntR 6 16) 15000=true:=by decide +kernel
 have h2:=xgc h2;lia
theorem zbck:∀{r:List Int} {k:Int},0<=k->(∀x∈r,1<=x)->0<=momR k r
 | [],k,_,_=>by simp[momR]
 | x::r,k,hk,h=>by
  have h1:=zbck (r:=r) (k:=k+1) (by lia) fun y hy=>h y (xbm _ hy)
  have h2:=h x (by simp);have h3:0<=k * x:=xky hk (by lia);unfold momR;lia
theorem zbcl:∀{r:List Int} {k:Int},0<=k->(∀x∈r,1<=x)->momR k r<=(k+r.length) * r.sum
 | [],k,_,_=>by simp[momR]
 | x::r,k,hk,h=>by
  have h1:=zbcl (r:=r) (k:=k+1) (by lia) fun y hy=>h y (xbm _ hy)
  have h2:=h x (by simp);have h3:0<=((r.length:Int)+1) * x:=xky (by lia) (by lia);rw[xgs,xbv,Int.mul_add];unfold momR;have e1:(k+((r.length+1:Nat):Int)) * x=k * x+((r.length:Int)+1) * x:=by rw[← xjv];congr 1;try lia
  have e2:(k+1+(r.length:Int)) * r.sum=(k+((r.length+1:Nat):Int)) * r.sum:=by congr 1;push_cast;lia
  rw[e1];rw[e2] at h1
  lia
theorem ztk {r:List Int}(h:RowOk r 16 6):0<=momR 1 r/\momR 1 r<=112:=by
 refine⟨zbck (by lia) h.pos,xkl (zbcl (by lia) h.pos) ?_⟩;have h1:=h.len;have h2:=h.sum;have h3:0<=r.sum:=zcn h.pos
 calc (1+(r.length:Int)) * r.sum<=7 * r.sum:=Int.mul_le_mul_of_nonneg_right (by lia) h3
  _<=112:=by lia
structure LvG (lr:Lr):Prop where
 nd:(lr.map (·.1)).Nodup
 row:∀q∈lr,∀r∈q.2,RowOk r 16 6/\momR 1 r=q.1
 key:∀q∈lr,0<=q.1/\q.1<=112
 rnd:∀q∈lr,q.2.Nodup
theorem LvG.few {lr:Lr}(h:LvG lr):lr.length<=113/\∀q∈lr,q.2.length<=15000:=by
 refine⟨?_,fun q hq=>zpy (h.rnd q hq) fun r hr=>(h.row q hq r hr).1⟩;have:=zns (m:=(List.range 113).map fun(i:Nat)=>(i:Int)) h.nd fun x hx=>by
  obtain⟨q,hq,rfl⟩:=xcb.mp hx;have:=h.key q hq;exact xcb.mpr ⟨q.1.toNat,xcj.mpr (by lia),by lia⟩
 simpa using this
theorem zda {r:List Int}:∀{lr:Lr} (q:Int×List (List Int)),q∈flipR r lr->q∈lr\/(q.1=momR 1 r/\((q.2=[r]/\∀x∈lr,x.1≠momR 1 r)\/∃l,(q.1,l)∈lr/\q.2=flipL l r))
 | [],q,h=>by
  unfold flipR at h;simp at h;subst h;exact .inr ⟨rfl,.inl ⟨rfl,fun x hx=>by cases hx⟩⟩
 | x::lr,q,h=>by
  unfold flipR at h;split at h
  ·rename_i c;rcases xbr.mp h with rfl | h
   ·exact .inr ⟨c,.inr ⟨x.2,by simp,rfl⟩⟩
   ·exact .inl (xbm _ h)
  ·rename_i c;rcases xbr.mp h with rfl | h
   ·exact .inl (by simp)
   ·rcases zda q h with h | ⟨h1,⟨h2,h3⟩ | ⟨l,h2,h3⟩⟩
    ·exact .inl (xbm _ h)
    ·refine .inr ⟨h1,.inl ⟨h2,fun y hy=>?_⟩⟩;rcases xbr.mp hy with rfl | hy
     ·exact c
     ·exact h3 y hy
    ·exact .inr ⟨h1,.inr ⟨l,xbm _ h2,h3⟩⟩
theorem zqz {r:List Int}:∀{lr:Lr},(lr.map (·.1)).Nodup->((flipR r lr).map (·.1)).Nodup
 | [],_=>by simp[flipR]
 | x::lr,nd=>by
  rw[xbq,xdn] at nd;unfold flipR;split
  ·rw[xbq,xdn];exact nd
  ·rename_i c;rw[xbq,xdn];refine⟨fun z=>?_,zqz nd.2⟩;obtain⟨q,hq,e⟩:=xcb.mp z;rcases zda q hq with h | ⟨h,_⟩
   ·exact nd.1 (xcb.mpr ⟨q,h,e⟩)
   ·exact c (e.symm.trans h)
theorem LvG.flip {lr:Lr}{r:List Int}(h:LvG lr)(hr:RowOk r 16 6):LvG (flipR r lr):=by
 refine⟨zqz h.nd,fun q hq x hx=>?_,fun q hq=>?_,fun q hq=>?_⟩
 ·rcases zda q hq with h1 | ⟨h1,⟨h2,h3⟩ | ⟨l,h2,h3⟩⟩
  ·exact h.row q h1 x hx
  ·rw[h2,xdh] at hx;subst hx;exact⟨hr,h1.symm⟩
  ·rw[h3,zbr] at hx;rcases hx with⟨hx,_⟩ | ⟨rfl,_⟩
   ·exact h.row _ h2 x hx
   ·exact⟨hr,h1.symm⟩
 ·rcases zda q hq with h1 | ⟨h1,_⟩
  ·exact h.key q h1
  ·rw[h1];exact ztk hr
 ·rcases zda q hq with h1 | ⟨h1,⟨h2,h3⟩ | ⟨l,h2,h3⟩⟩
  ·exact h.rnd q h1
  ·rw[h2];simp
  ·rw[h3];exact zck (h.rnd _ h2)
noncomputable def inM (lr:Lr) (x:List Int):Prop:=∃q∈lr,x∈q.2
theorem zxt {lr:Lr}{r x:List Int}(h:LvG lr)(hr:RowOk r 16 6):inM (flipR r lr) x↔(inM lr x/\x≠r)\/(x=r/\¬ inM lr r):=by
 have key:∀{lr:Lr},(lr.map (·.1)).Nodup->(∀q∈lr,∀r∈q.2,momR 1 r=q.1)->(inM (flipR r lr) x↔(inM lr x/\x≠r)\/(x=r/\¬ inM lr r)):=fun {lr}=>by
  induction lr with
  | nil =>
   intro _ _;unfold flipR inM;simp
  | cons a lr ih =>
   intro nd hh;rw[xbq,xdn] at nd;have c1:∀y,inM (a::lr) y↔y∈a.2\/inM lr y:=fun y=>by unfold inM;simp
   unfold flipR;split
   ·rename_i c;have no:¬ inM lr r:=fun⟨q,hq,hx⟩=>nd.1 (xcb.mpr ⟨q,hq,by rw[c];exact(hh q (xbm _ hq) r hx).symm⟩)
    have c2:inM ((a.1,flipL a.2 r)::lr) x↔x∈flipL a.2 r\/inM lr x:=by unfold inM;simp
    rw[c2,zbr,c1,c1];by_cases e:x=r
    ·subst e;simp[no]
    ·simp[e]
   ·rename_i c;have c2:inM (a::flipR r lr) x↔x∈a.2\/inM (flipR r lr) x:=by unfold inM;simp
    have na:r∉a.2:=fun z=>c (hh a (by simp) r z).symm
    rw[c2,ih nd.2 fun q hq=>hh q (xbm _ hq),c1,c1];by_cases e:x=r
    ·subst e;simp[na]
    ·simp[e]
 exact key h.nd fun q hq x hx=>(h.row q hq x hx).2
noncomputable def stepK (ks:List (List Int)) (z:List Int×Nat):List (List Int):=(z.1::exRow z.1 z.2).foldl flipL ks
noncomputable def Wke (ks:List (List Int)) (q:List (List Int×Nat)):List (List Int):=q.foldl stepK ks
noncomputable def Wkd:List (List Int)->List (List Int×Nat)->Prop
 | _,[]=>True
 | ks,z::q=>z.1∈ks/\slowAt z.1 z.2/\Wkd (stepK ks z) q
theorem Wkd.snoc:∀{q:List (List Int×Nat)} {ks:List (List Int)} {z:List Int×Nat},Wkd ks q->z.1∈Wke ks q->slowAt z.1 z.2->Wkd ks (q++[z])
 | [],ks,z,_,h1,h2=>⟨h1,h2,trivial⟩
 | a::q,ks,z,h,h1,h2=>⟨h.1,h.2.1,Wkd.snoc h.2.2 h1 h2⟩
theorem Wke.snoc {q:List (List Int×Nat)}{ks:List (List Int)}{z:List Int×Nat}:Wke ks (q++[z])=stepK (Wke ks q) z:=by unfold Wke;rw[xiv];rfl
theorem ztv {m ks:List (List Int)}{x:List Int}(h:x∈m.foldl flipL ks):x∈ks\/x∈m:=by
 induction m generalizing ks with
 | nil=>exact .inl h
 | cons a m ih =>
  rcases ih h with h | h
  ·rw[zbr] at h;rcases h with⟨h,_⟩ | ⟨rfl,_⟩
   ·exact .inl h
   ·exact .inr (by simp)
  ·exact .inr (xbm _ h)
theorem zxv {m ks:List (List Int)}(h:ks.Nodup):(m.foldl flipL ks).Nodup:=by
 induction m generalizing ks with
 | nil=>exact h
 | cons a m ih=>exact ih (zck h)
structure RwsOk (ks:List (List Int)):Prop where
 nd:ks.Nodup
 row:∀r∈ks,RowOk r 16 6
theorem RwsOk.few {ks:List (List Int)}(h:RwsOk ks):ks.length<=15000:=zpy h.nd h.row
theorem RwsOk.step {ks:List (List Int)}{z:List Int×Nat}(h:RwsOk ks)(h1:z.1∈ks)(h2:slowAt z.1 z.2):RwsOk (stepK ks z)/\nuS (stepK ks z)=nuS ks:=by
 refine⟨⟨zxv h.nd,fun r hr=>?_⟩,?_⟩
 ·rcases ztv hr with hr | hr
  ·exact h.row r hr
  ·rcases xbr.mp hr with rfl | hr
   ·exact h.row _ h1
   ·exact zgo (h.row _ h1) h2 r hr
 ·unfold stepK;rw[zju _ _ h.nd];show nuS ks ^^^ (nu z.1 ^^^ nuS (exRow z.1 z.2))=_;rw[zbch (h.row _ h1) h2,xkp,xjm]
theorem RwsOk.walk:∀{q:List (List Int×Nat)} {ks:List (List Int)},RwsOk ks->Wkd ks q->RwsOk (Wke ks q)/\nuS (Wke ks q)=nuS ks
 | [],ks,h,_=>⟨h,rfl⟩
 | z::q,ks,h,w=>by
  obtain⟨a,b⟩:=h.step w.1 w.2.1;obtain⟨c,d⟩:=RwsOk.walk a w.2.2;exact⟨c,d.trans b⟩
theorem zvz {q:List (List Int×Nat)}{ks:List (List Int)}(h:RwsOk ks)(w:Wkd ks q)(s:∀x∈Wke ks q,Stp x):sortR (Wke ks q)=stl (nuS ks):=by
 obtain⟨a,b⟩:=h.walk w;rw[zbak (fun r hr=>⟨a.row r hr,s r hr⟩) a.nd,b]
noncomputable def foldR (ms:List (List Int)) (lr:Lr):Lr:=ms.foldl (fun a r=>flipR r a) lr
structure LvTo (st:Store) (L:Nat) (lv:Lv) (ms:List (List Int)) (s:Store) (lv':Lv):Prop where
 at_:LvAt s L lv'
 eq:lvR lv'=foldR ms (lvR lv)
 keep:∀i,i < st.length->i≠L->(∀q∈lv,q.2.1≠i)->s[i]?=st[i]?
 len:st.length<=s.length
 ix:∀q∈lv',st.length<=q.2.1\/∃q0∈lv,q0.2.1=q.2.1
theorem LvTo.refl {st:Store}{L:Nat}{lv:Lv}(h:LvAt st L lv):LvTo st L lv [] st lv:=⟨h,rfl,fun _ _ _ _=>rfl,xbg _,fun q hq=>.inr ⟨q,hq,rfl⟩⟩
theorem zny {n:Nat}{r:List Int}:∀{lv:Lv},∀q∈flipLv n r lv,q.2.1=n\/∃q0∈lv,q0.2.1=q.2.1
 | [],q,hq=>by
  unfold flipLv at hq;simp at hq;subst hq;exact .inl rfl
 | x::lv,q,hq=>by
  unfold flipLv at hq;split at hq
  ·rcases xbr.mp hq with rfl | hq
   ·exact .inr ⟨x,by simp,rfl⟩
   ·exact .inr ⟨q,xbm _ hq,rfl⟩
  ·rcases xbr.mp hq with rfl | hq
   ·exact .inr ⟨q,by simp,rfl⟩
   ·rcases zny q hq with h | ⟨q0,h1,h2⟩
    ·exact .inl h
    ·exact .inr ⟨q0,xbm _ h1,h2⟩
theorem LvTo.snoc {st s s2:Store}{L:Nat}{lv lv':Lv}{ms:List (List Int)}{r:List Int}(a:LvTo st L lv ms s lv')(h:LvAt s2 L (flipLv s.length r lv'))(k:∀i,i < s.length->i≠L->(∀q∈lv',q.2.1≠i)->s2[i]?=s[i]?)(l:s.length<=s2.length) :
  LvTo st L lv (ms++[r]) s2 (flipLv s.length r lv'):=by
 refine⟨h,?_,fun i hi hL hq=>?_,xbb a.len l,fun q hq=>?_⟩
 ·rw[zjy,a.eq];unfold foldR;rw[xiv];rfl
 ·have hl:=a.len;rw[k i (by lia) hL fun q hq'=>?_,a.keep i hi hL hq];rcases a.ix q hq' with h1 | ⟨q0,h1,h2⟩
  ·lia
  ·rw[← h2];exact hq q0 h1
 ·rcases zny q hq with h1 | ⟨q0,h1,h2⟩
  ·exact .inl (by rw[h1];exact a.len)
  ·rcases a.ix q0 h1 with h3 | ⟨q1,h3,h4⟩
   ·exact .inl (by rw[← h2];exact h3)
   ·exact .inr ⟨q1,h3,h4.trans h2⟩
theorem zvg {lv:Lv}(h:LvG (lvR lv)):lv.length<=113/\∀q∈lv,q.2.2.length<=15000:=by
 refine⟨by have:=h.few.1;unfold lvR at this;rwa [xbd] at this,fun q hq=>h.few.2 (q.1,q.2.2) (xcb.mpr ⟨q,hq,rfl⟩)⟩
theorem zbaq {r:List Int}(h:RowOk r 16 6):r.length<=1000/\∀x∈r,-10000<=x/\x<=10000:=⟨by have:=h.len;lia,fun x hx=>by have:=zwh h x hx;lia⟩
theorem zbct {S0 S2 S3 S4 S5 v6:Option D}{st:Store}{L:Nat}{lv:Lv}{ms:List (List Int)}{Q:Fl->Store->Prop}(h:LvAt st L lv)(sm:LvG (lvR lv))(hm:∀r∈ms,RowOk r 16 6)
  (k:∀s lv' w6,LvTo st L lv ms s lv'->LvG (lvR lv')->Q (.nx [S0,some (.ref L),S2,S3,S4,S5,w6]) s):WP (forF (gN 6) zmx (rowsD ms) [S0,some (.ref L),S2,S3,S4,S5,v6] st) Q:=by
 refine zgs (fun i σ s=>∃lv' w6,σ=[S0,some (.ref L),S2,S3,S4,S5,w6]/\LvTo st L lv (ms.take i) s lv'/\LvG (lvR lv')) ⟨lv,v6,rfl,.refl h,sm⟩ ?_ ?_
 ·rintro i x σ s hx ⟨lv',w6,rfl,t,sm'⟩;obtain⟨r,hr,rfl⟩:=zca hx;have hi:=(xbc.mp hr).1;have b:=zbaq (hm r (xbs hr));have z:=zvg sm';have rk:=hm r (xbs hr);refine⟨[S0,some (.ref L),S2,S3,S4,S5,some (rowD r)],rfl,?_⟩;unfold zmx;simp only[W,V,M];refine zgg t.at_ b.1 b.2 (by lia) (fun q hq=>by have:=z.2 q hq;lia) fun s2 h2 k2 l2=>?_
  simp only[W,V,Dd.L];refine⟨flipLv s.length r lv',_,rfl,?_,?_⟩
  ·rw[zo hr];exact t.snoc h2 k2 l2
  ·rw[zjy];exact sm'.flip rk
 ·rintro σ s ⟨lv',w6,rfl,t,sm'⟩;rw[zg] at t;rw[xda] at t;exact k s lv' w6 t sm'
theorem zxw {S0 S3 S4 S5 S6 v2:Option D}{st:Store}{L:Nat}{lv:Lv}{ms:List (List Int)}{Q:Fl->Store->Prop}(h:LvAt st L lv)(sm:LvG (lvR lv))(hm:∀r∈ms,RowOk r 16 6)
  (k:∀s lv' w2,LvTo st L lv ms s lv'->LvG (lvR lv')->Q (.nx [S0,some (.ref L),w2,S3,S4,S5,S6]) s):WP (forF (gN 2) zmy (rowsD ms) [S0,some (.ref L),v2,S3,S4,S5,S6] st) Q:=by
 refine zgs (fun i σ s=>∃lv' w2,σ=[S0,some (.ref L),w2,S3,S4,S5,S6]/\LvTo st L lv (ms.take i) s lv'/\LvG (lvR lv')) ⟨lv,v2,rfl,.refl h,sm⟩ ?_ ?_
 ·rintro i x σ s hx ⟨lv',w2,rfl,t,sm'⟩;obtain⟨r,hr,rfl⟩:=zca hx;have hi:=(xbc.mp hr).1;have b:=zbaq (hm r (xbs hr));have z:=zvg sm';have rk:=hm r (xbs hr);refine⟨[S0,some (.ref L),some (rowD r),S3,S4,S5,S6],rfl,?_⟩;unfold zmy;simp only[W,V,M];refine zgg t.at_ b.1 b.2 (by lia) (fun q hq=>by have:=z.2 q hq;lia) fun s2 h2 k2 l2=>?_
  simp only[W,V,Dd.L];refine⟨flipLv s.length r lv',_,rfl,?_,?_⟩
  ·rw[zo hr];exact t.snoc h2 k2 l2
  ·rw[zjy];exact sm'.flip rk
 ·rintro σ s ⟨lv',w2,rfl,t,sm'⟩;rw[zg] at t;rw[xda] at t;exact k s lv' w2 t sm'
noncomputable def stpD (q:List (List Int×Nat)):List D:=q.map fun z=>.tup [rowD z.1,.int z.2]
noncomputable def rowW (a:Lr×List (List Int×Nat)) (r:List Int):Lr×List (List Int×Nat):=match placesL r with
 | []=>a
 | p::_=>(foldR (exRow r p) a.1,a.2++[(r,p)])
structure Wy (s0:Store) (b:Nat) (L M:Nat) (s:Store) (lv:Lv) (q:List (List Int×Nat)):Prop where
 at_:LvAt s L lv
 stp:s[M]?=some (.lst (stpD q))
 ne:M≠L
 ni:∀x∈lv,x.2.1≠M
 bL:b<=L
 bM:b<=M
 bI:∀x∈lv,b<=x.2.1
 low:∀i,i < b->s[i]?=s0[i]?
 bs:b<=s.length
theorem LvAt.more {s:Store}{L:Nat}{lv:Lv}(h:LvAt s L lv)(g:Store):LvAt (s++g) L lv :=
 ⟨by rw[xbf (zh h.at_)];exact h.at_,fun q hq=>by rw[xbf (zh (h.in_ q hq))];exact h.in_ q hq,h.nd,h.ix,h.rows⟩
theorem Wy.more {s0 s:Store}{b L M:Nat}{lv:Lv}{q:List (List Int×Nat)}(h:Wy s0 b L M s lv q)(g:Store):Wy s0 b L M (s++g) lv q :=
 ⟨h.at_.more g,by rw[xbf (zh h.stp)];exact h.stp,h.ne,h.ni,h.bL,h.bM,h.bI,fun i hi=>by rw[xbf (xbk hi h.bs)];exact h.low i hi,by rw[xbp];have:=h.bs;lia⟩
theorem Wy.put {s0 s:Store}{b L M:Nat}{lv:Lv}{q:List (List Int×Nat)}{z:List Int×Nat}(h:Wy s0 b L M s lv q):Wy s0 b L M (s.set M (.lst (stpD q++[.tup [rowD z.1,.int z.2]]))) lv (q++[z]):=by
 refine⟨⟨?_,fun x hx=>?_,h.at_.nd,h.at_.ix,h.at_.rows⟩,?_,h.ne,h.ni,h.bL,h.bM,h.bI,fun i hi=>?_,by rw[xcm];exact h.bs⟩
 ·rw[xbi h.ne];exact h.at_.at_
 ·rw[xbi (h.ni x hx).symm];exact h.at_.in_ x hx
 ·rw[zcx (zh h.stp)];unfold stpD;rw[xdw];rfl
 ·have:=h.bM;rw[xbi (by lia)];exact h.low i hi
theorem Wy.to {s0 s s2:Store}{b L M:Nat}{lv lv':Lv}{q:List (List Int×Nat)}{ms:List (List Int)}(h:Wy s0 b L M s lv q)(t:LvTo s L lv ms s2 lv'):Wy s0 b L M s2 lv' q:=by
 have hM:=zh h.stp;refine⟨t.at_,?_,h.ne,fun x hx=>?_,h.bL,h.bM,fun x hx=>?_,fun i hi=>?_,xbb h.bs t.len⟩
 ·rw[t.keep M hM h.ne h.ni];exact h.stp
 ·rcases t.ix x hx with h1 | ⟨y,h1,h2⟩
  ·lia
  ·rw[← h2];exact h.ni y h1
 ·rcases t.ix x hx with h1 | ⟨y,h1,h2⟩
  ·exact xbb h.bs h1
  ·rw[← h2];exact h.bI y h1
 ·have h1:=h.bs;have h2:=h.bL;rw[t.keep i (by lia) (by lia) fun x hx=>by have:=h.bI x hx;lia];exact h.low i hi
theorem zxl {S0 S4 v2 v5 v6:Option D}{s0 st:Store}{b L M:Nat}{lv:Lv}{q:List (List Int×Nat)}{rs:List (List Int)}{Q:Fl->Store->Prop}(h:Wy s0 b L M st lv q)(sm:LvG (lvR lv))(hq:q.length+rs.length<=10000000)(hr:∀r∈rs,RowOk r 16 6)
  (k:∀s lv' q' w2 w5 w6,Wy s0 b L M s lv' q'->(lvR lv',q')=rs.foldl rowW (lvR lv,q)->LvG (lvR lv')->q'.length<=q.length+rs.length->Q (.nx [S0,some (.ref L),w2,some (.ref M),S4,w5,w6]) s) :
  WP (forF (gN 2) zmw (rowsD rs) [S0,some (.ref L),v2,some (.ref M),S4,v5,v6] st) Q:=by
 refine zgs (fun i σ s=>∃lv' q' w2 w5 w6,σ=[S0,some (.ref L),w2,some (.ref M),S4,w5,w6]/\Wy s0 b L M s lv' q'/\(lvR lv',q')=(rs.take i).foldl rowW (lvR lv,q)/\LvG (lvR lv')/\q'.length<=q.length+i) ⟨lv,q,v2,v5,v6,rfl,h,rfl,sm,xbg _⟩ ?_ ?_
 ·rintro i x σ s hx ⟨lv',q',w2,w5,w6,rfl,wy,ee,sm',ql⟩;obtain⟨r,hg,rfl⟩:=zca hx;have hi:=(xbc.mp hg).1;have rok:=hr r (xbs hg);have rl:=rok.len;refine⟨[S0,some (.ref L),some (rowD r),some (.ref M),S4,w5,w6],rfl,?_⟩;have ef:(rs.take (i+1)).foldl rowW (lvR lv,q)=rowW (lvR lv',q') r:=by rw[zo hg,xiv,← ee];rfl
  unfold zmw;simp only[W,V,Dd.M];refine WP.of (zsx (by lia)) ?_
  try simp only[W,V,Dd.M]
  cases hp:placesL r with
  | nil =>
   refine⟨false,rfl,?_⟩;rw[if_neg (by decide)];refine⟨lv',q',_,_,_,rfl,wy,?_,sm',by lia⟩;rw[ef];unfold rowW;rw[hp]
  | cons p ps =>
   refine⟨true,rfl,?_⟩;rw[if_pos rfl];have hs:slowAt r p:=zfg.mp (by rw[hp];simp);have hgd:=zks rok hs;have hpl:p+1 < r.length:=by obtain⟨a,b,_,z,_⟩:=hs;exact(xbc.mp z).1
   have hex:=zhp r p;have e0:∀s:Store,oIx (.lst (plD (p::ps))) (.int 0) s=.ok (.int p) s:=fun s=>zjr rfl (zmu (j:=0) rfl)
   refine⟨_,_,rfl,wy.stp,WP.of (e0 s) ⟨small _ (by simp),_,_,rfl,wy.stp,by unfold stpD;rw[xbd,xja];lia,WP.of (e0 _) ?_⟩⟩;have wy2:=wy.put (z:=(r,p));obtain⟨g,e⟩:=zen (st:=s.set M (.lst (stpD q'++[.tup [rowD r,.int p]]))) (r:=r) (p:=p) hpl (by lia) hgd.1.1 (by lia) (by lia) (by lia);refine WP.of e ⟨_,rfl,?_⟩;have wy3:=wy2.more g;refine zbct wy3.at_ sm' (zgo rok hs) fun s2 lv2 w6' t2 sm2=>?_
   refine⟨lv2,q'++[(r,p)],_,_,_,rfl,wy3.to t2,?_,sm2,by rw[xbp,xfx];lia⟩;rw[ef];unfold rowW;rw[hp]
   show _=(foldR (exRow r p) (lvR lv'),q'++[(r,p)])
   rw[t2.eq]
 ·rintro σ s ⟨lv',q',w2,w5,w6,rfl,wy,ee,sm',ql⟩;rw[zg] at ee ql;rw[xda] at ee;exact k s lv' q' w2 w5 w6 wy ee sm' ql
noncomputable def topL (lr:Lr):Int:=match lr.map (·.1) with
 | []=>0
 | k::ks=>bestI true k ks
noncomputable def lessR (lr:Lr) (m:Int):Lr:=lr.filter fun q=>decide (q.1≠m)
noncomputable def lessV (lv:Lv) (m:Int):Lv:=lv.filter fun q=>decide (q.1≠m)
theorem zbcu {lv:Lv}{m:Int}:lvR (lessV lv m)=lessR (lvR lv) m:=by
 unfold lvR lessV lessR;rw[xku];rfl
theorem zbcv {lv:Lv}{m:Int}:dropI (lvD lv) m=lvD (lessV lv m):=by
 unfold dropI lvD lessV;rw[xku];rfl
theorem Wy.less {s0 s:Store}{b L M:Nat}{lv:Lv}{q:List (List Int×Nat)}{m:Int}(h:Wy s0 b L M s lv q):Wy s0 b L M (s.set L (.dI (lvD (lessV lv m)))) (lessV lv m) q:=by
 have sub:∀x∈lessV lv m,x∈lv:=fun x hx=>(xcw.mp hx).1
 have iL:∀x∈lv,x.2.1≠L:=fun x hx z=>by have:=h.at_.in_ x hx;rw[z,h.at_.at_] at this;cases this
 refine⟨⟨zcx (zh h.at_.at_),fun x hx=>?_,?_,?_,fun x hx=>h.at_.rows x (sub x hx)⟩,?_,h.ne,fun x hx=>h.ni x (sub x hx),h.bL,h.bM,fun x hx=>h.bI x (sub x hx),fun i hi=>?_,by rw[xcm];exact h.bs⟩
 ·rw[xbi (iL x (sub x hx)).symm];exact h.at_.in_ x (sub x hx)
 ·exact h.at_.nd.sublist (xhx.map _)
 ·exact h.at_.ix.sublist (xhx.map _)
 ·rw[xbi h.ne.symm];exact h.stp
 ·have:=h.bL;rw[xbi (by lia)];exact h.low i hi
end Dd
namespace Dd
open PySem L2
section
variable {st:Store}{n:Nat}{Q:D->Store->Prop}
end
end Dd
namespace K03
end K03
namespace K13
open PySem PyProof.Rows
end K13
namespace Dd
open PySem L2 K13
theorem zpk {c:ST}{body:SS}{Q:Fl->Store->Prop}(I:Nat->DS->Store->Prop){k:Nat}{σ:DS}{st:Store}(h0:I k σ st)(hm:k < 1000000)
  (s:∀j σ st,I j σ st->WP (c σ st) (fun b st1=>if b=true then WP (body σ st1) (loopK (fun σ2 st2=>∃i,i < j/\I i σ2 st2) Q) else Q (.nx σ) st1)):WP (sWhile c body σ st) Q:=by
 have main:∀n j σ st,I j σ st->j < n->WP (whileF c body n σ st) Q:=by
  intro n
  induction n with
  | zero=>intro j σ st _ h;lia
  | succ n ih =>
   intro j σ st hI hlt;obtain⟨b,st1,e1,w⟩:=(s j σ st hI).get;unfold whileF;rw[e1];dsimp only[zy];cases b with
   | false=>exact w
   | true =>
    rw[if_pos rfl] at w ⊢;obtain⟨fl,st2,e2,w⟩:=w.get;rw[e2];cases fl with
    | nx σ2=>obtain⟨i,hi,h⟩:=w;exact ih i σ2 st2 h (by lia)
    | ct σ2=>obtain⟨i,hi,h⟩:=w;exact ih i σ2 st2 h (by lia)
    | brk σ2=>exact w
    | ret v=>exact w
 exact main wCap k σ st h0 hm
section
variable {st:Store}{n:Nat}{Q:D->Store->Prop}
end
end Dd
namespace Dd
open PySem L2 K07 K23
structure Iv (k0:List (List Int)) (m:Int) (lr:Lr) (rs:List (List Int)) (q:List (List Int×Nat)):Prop where
 wk:Wkd k0 q
 g:LvG lr
 lt:∀x∈lr,x.1 < m
 low:∀x,momR 1 x < m->(x∈Wke k0 q↔inM lr x)
 rs_:∀x∈rs,momR 1 x=m/\x∈Wke k0 q
 rn:rs.Nodup
 high:∀x∈Wke k0 q,m<=momR 1 x->x∈rs\/Stp x
theorem zul {lr:Lr}{ks:List (List Int)}{r:List Int}{m:Int}(G:LvG lr)(hr:RowOk r 16 6)(hm:momR 1 r < m)(h:∀x,momR 1 x < m->(x∈ks↔inM lr x)):∀x,momR 1 x < m->(x∈flipL ks r↔inM (flipR r lr) x):=fun x hx=>by
 rw[zbr,zxt G hr,h x hx,h r hm]
theorem zhx {m:Int}:∀{ms:List (List Int)} {lr:Lr} {ks:List (List Int)},LvG lr->(∀r∈ms,RowOk r 16 6/\momR 1 r < m)->(∀x,momR 1 x < m->(x∈ks↔inM lr x))->LvG (foldR ms lr)/\∀x,momR 1 x < m->(x∈ms.foldl flipL ks↔inM (foldR ms lr) x)
 | [],lr,ks,G,_,h=>⟨G,h⟩
 | r::ms,lr,ks,G,hm,h=>zhx (ms:=ms) (G.flip (hm r (by simp)).1) (fun x hx=>hm x (xbm _ hx)) (zul G (hm r (by simp)).1 (hm r (by simp)).2 h)
theorem znw {x:List Int}:∀{ms ks:List (List Int)},(∀r∈ms,x≠r)->(x∈ms.foldl flipL ks↔x∈ks)
 | [],ks,_=>Iff.rfl
 | r::ms,ks,h=>by
  rw[xib,znw (ms:=ms) fun y hy=>h y (xbm _ hy),zbr];have:=h r (by simp);simp[this]
theorem zmj {m:Int}:∀{ms:List (List Int)} {lr:Lr},(∀r∈ms,momR 1 r < m)->(∀x∈lr,x.1 < m)->∀x∈foldR ms lr,x.1 < m
 | [],lr,_,h=>h
 | r::ms,lr,hm,h=>zmj (ms:=ms) (fun x hx=>hm x (xbm _ hx)) fun x hx=>by
  rcases zda x hx with h1 | ⟨h1,_⟩
  ·exact h x h1
  ·rw[h1];exact hm r (by simp)
theorem Iv.row {k0:List (List Int)}{m:Int}{lr:Lr}{rs:List (List Int)}{q:List (List Int×Nat)}{r:List Int}(K:RwsOk k0)(h:Iv k0 m lr (r::rs) q):Iv k0 m (rowW (lr,q) r).1 rs (rowW (lr,q) r).2:=by
 obtain⟨kk,_⟩:=K.walk h.wk;have hr:=h.rs_ r (by simp);have nd:=xdn.mp h.rn;unfold rowW;cases hp:placesL r with
 | nil =>
  refine⟨h.wk,h.g,h.lt,h.low,fun x hx=>h.rs_ x (xbm _ hx),nd.2,fun x hx hm=>?_⟩;rcases h.high x hx hm with z | z
  ·rcases xbr.mp z with rfl | z
   ·exact .inr (zwb hp)
   ·exact .inl z
  ·exact .inr z
 | cons p ps =>
  have hs:slowAt r p:=zfg.mp (by rw[hp];simp);have rok:=kk.row r hr.2;have ml:∀z∈exRow r p,RowOk z 16 6/\momR 1 z < m:=fun z hz=>⟨zgo rok hs z hz,by rw[← hr.1];exact zqs rok.pos hs hz⟩
  have b0:∀x,momR 1 x < m->(x∈flipL (Wke k0 q) r↔inM lr x):=fun x hx=>by
   rw[zbr,← h.low x hx];have:x≠r:=fun e=>by rw[e,hr.1] at hx;lia
   simp[this]
  obtain⟨g2,b2⟩:=zhx h.g ml b0;have far:∀x,m<=momR 1 x->(x∈stepK (Wke k0 q) (r,p)↔x∈Wke k0 q/\x≠r):=fun x hx=>by
   show x∈(exRow r p).foldl flipL (flipL (Wke k0 q) r)↔_;rw[znw fun y hy e=>by have:=(ml y hy).2;rw[← e] at this;lia,zbr];have:=hr.2;constructor
   ·rintro(z | ⟨rfl,z⟩)
    ·exact z
    ·exact absurd this z
   ·exact fun z=>.inl z
  refine⟨h.wk.snoc hr.2 hs,g2,zmj (fun z hz=>(ml z hz).2) h.lt,fun x hx=>?_,fun x hx=>?_,nd.2,fun x hx hm=>?_⟩
  ·rw[Wke.snoc];exact b2 x hx
  ·have hx':=h.rs_ x (xbm _ hx);rw[Wke.snoc];refine⟨hx'.1,(far x (by rw[hx'.1];exact Int.le_refl _)).mpr ⟨hx'.2,fun e=>?_⟩⟩;subst e;exact nd.1 hx
  ·rw[Wke.snoc] at hx;obtain⟨hx,hne⟩:=(far x hm).mp hx;rcases h.high x hx hm with z | z
   ·rcases xbr.mp z with e | z
    ·exact absurd e hne
    ·exact .inl z
   ·exact .inr z
theorem Iv.rows {k0:List (List Int)}{m:Int}(K:RwsOk k0):∀{rs:List (List Int)} {lr:Lr} {q:List (List Int×Nat)},Iv k0 m lr rs q->Iv k0 m (rs.foldl rowW (lr,q)).1 [] (rs.foldl rowW (lr,q)).2
 | [],lr,q,h=>h
 | r::rs,lr,q,h=>Iv.rows (rs:=rs) K (h.row K)
theorem zbaf:∀{lr:Lr},lr≠[]->(∃l,(topL lr,l)∈lr)/\∀x∈lr,x.1<=topL lr
 | [],h=>absurd rfl h
 | a::lr,_=>by
  obtain⟨h1,h2⟩:=zmp (lr.map (·.1)) a.1;have e:topL (a::lr)=bestI true a.1 (lr.map (·.1)):=rfl;rw[e];refine⟨?_,fun x hx=>h2 _ (by rw[← xbq (f:=fun q:Int×List (List Int)=>q.1)];exact xcb.mpr ⟨x,hx,rfl⟩)⟩;rw[← xbq (f:=fun q:Int×List (List Int)=>q.1)] at h1;obtain⟨q,hq,e⟩:=xcb.mp h1;exact⟨q.2,by rw[← e];exact hq⟩
theorem Iv.next {k0:List (List Int)}{m:Int}{lr:Lr}{q:List (List Int×Nat)}{l:List (List Int)}(h:Iv k0 m lr [] q)(hl:(topL lr,l)∈lr):Iv k0 (topL lr) (lessR lr (topL lr)) (sortR l) q:=by
 have hn:lr≠[]:=fun e=>by rw[e] at hl;cases hl
 have top:=(zbaf hn).2;have tm:topL lr < m:=h.lt _ hl;have sub:∀x∈lessR lr (topL lr),x∈lr/\x.1≠topL lr:=fun x hx=>by
  obtain⟨h1,h2⟩:=xcw.mp hx;exact⟨h1,xdk h2⟩
 have uq:∀x∈lr,x.1=topL lr->x.2=l:=fun x hx e=>by
  have:=zqr h.g.nd hx hl e;rw[this]
 refine⟨h.wk,⟨h.g.nd.sublist (xhx.map _),fun x hx=>h.g.row x (sub x hx).1,fun x hx=>h.g.key x (sub x hx).1,fun x hx=>h.g.rnd x (sub x hx).1⟩,fun x hx=>?_,fun x hx=>?_,fun x hx=>?_,?_,fun x hx hm=>?_⟩
 ·have h1:=sub x hx;have h2:=top x h1.1;have h3:=h1.2;lia
 ·rw[h.low x (by lia)];constructor
  ·rintro⟨y,hy,hxy⟩;refine⟨y,xcw.mpr ⟨hy,xcc fun e=>?_⟩,hxy⟩;have:=(h.g.row y hy x hxy).2;lia
  ·rintro⟨y,hy,hxy⟩;exact⟨y,(sub y hy).1,hxy⟩
 ·have hx:=(zn l).mem_iff.mp hx;have e:=(h.g.row _ hl x hx).2;have e:momR 1 x=topL lr:=e;exact⟨e,(h.low x (by lia)).mpr ⟨_,hl,hx⟩⟩
 ·exact(zn l).nodup_iff.mpr (h.g.rnd _ hl)
 ·rcases Int.lt_or_le (momR 1 x) m with z | z
  ·obtain⟨y,hy,hxy⟩:=(h.low x z).mp hx;have e:=(h.g.row y hy x hxy).2;have e2:=top y hy;exact .inl ((zn l).mem_iff.mpr (by rw[← uq y hy (by lia)];exact hxy))
  ·rcases h.high x hx z with z | z
   ·cases z
   ·exact .inr z
theorem Iv.end_ {k0:List (List Int)}{m:Int}{q:List (List Int×Nat)}(h:Iv k0 m [] [] q):∀x∈Wke k0 q,Stp x:=fun x hx=>by
 rcases Int.lt_or_le (momR 1 x) m with z | z
 ·obtain⟨y,hy,_⟩:=(h.low x z).mp hx;cases hy
 ·rcases h.high x hx z with z | z
  ·cases z
  ·exact z
theorem Iv.start {k0:List (List Int)}(K:RwsOk k0):Iv k0 113 (foldR k0 []) [] []:=by
 have hb:∀r∈k0,RowOk r 16 6/\momR 1 r < 113:=fun r hr=>⟨K.row r hr,by have:=ztk (K.row r hr);lia⟩
 obtain⟨g,h⟩:=zhx (m:=113) (ms:=k0) (lr:=[]) (ks:=[]) ⟨by simp,fun q hq=>(by cases hq),fun q hq=>(by cases hq),fun q hq=>(by cases hq)⟩ hb fun x _=>by unfold inM;simp
 have e:∀x,x∈k0.foldl flipL []↔x∈k0:=fun x=>by
  have:=(ziw k0 [] xfq).2.2 x;rw[this,xkq K.nd];by_cases c:x∈k0<;>simp[c]
 refine⟨trivial,g,zmj (fun z hz=>(hb z hz).2) (fun x hx=>(by cases hx)),fun x hx=>?_,fun x hx=>(by cases hx),xfq,fun x hx hm=>?_⟩
 ·rw[← h x hx,e];rfl
 ·have:=(hb x hx).2;lia
theorem zbae {f:SE}{σ:DS}{st:Store}{L:Nat}{kvs:List (Int×D)}(hf:f σ st=.ok (.ref L) st)(h:st[L]?=some (.dI kvs)):bTruI f σ st=.ok (!kvs.isEmpty) st:=by
 unfold bTruI;rw[hf,zy];dsimp only;rw[h]
theorem zbcs {st:Store}{L:Nat}{lv:Lv}(h:st[L]?=some (.dI (lvD lv)))(hn:lv≠[]):bMaxI [.ref L] st=.ok (.int (topL (lvR lv))) st:=by
 unfold bMaxI;dsimp only;rw[h];cases lv with
 | nil=>exact absurd rfl hn
 | cons a lv =>
  show Res.ok (D.int (bestI true a.1 ((lvD lv).map (·.1)))) st=.ok (D.int (bestI true a.1 ((lvR lv).map (·.1)))) st
  congr 3
  unfold lvD lvR;rw[xdr,xdr];rfl
theorem zbbc {f:SE}{g:SA}{σ:DS}{st:Store}{L:Nat}{kvs:List (Int×D)}{k:Int}{v:D}(hf:f σ st=.ok (.ref L) st)(h:st[L]?=some (.dI kvs))(hg:g σ st=.ok [.int k] st)(hv:valI kvs k=some v):ePopI f g σ st=.ok v (st.set L (.dI (dropI kvs k))):=by
 unfold ePopI;rw[hf,zy];dsimp only
 rw[h];dsimp only
 rw[hg,zy];try dsimp only
 rw[h];try dsimp only
 rw[hv]
theorem zgm {s st:Store}(h:∀i,i < st.length->s[i]?=st[i]?)(hl:st.length<=s.length):s=st++s.drop st.length:=by
 refine xit fun i=>?_
 rcases xhl i st.length with z | z
 ·rw[h i z,xbf z]
 ·rw[xcr z,xeu];congr 1;lia
structure Way (ks:List (List Int)) (q:List (List Int×Nat)):Prop where
 wk:Wkd ks q
 fin:∀x∈Wke ks q,Stp x
 len:q.length<=2000000
theorem zbfe {st:Store}{ks:List (List Int)}{Q:D->Store->Prop}(K:RwsOk ks)(k:∀q g,Way ks q->Q (.lst (stpD q)) (st++g)):WP (zbeu [sumD ks] st) Q:=by
 refine zsa rfl ?_;simp only[W,V];refine WP.of (show eDNewI _ st=.ok (.ref st.length) (st++[.dI []]) from rfl) ?_
 try simp only[W,V]
 refine⟨_,rfl,?_⟩;have a0:LvAt (st++[O.dI []]) st.length []:=⟨by simp;rfl,fun q hq=>(by cases hq),by simp,by simp,fun q hq=>(by cases hq)⟩
 refine zxw (lv:=[]) a0 ⟨by simp[lvR],fun q hq=>(by cases hq),fun q hq=>(by cases hq),fun q hq=>(by cases hq)⟩ K.row fun s lv w2 t G=>?_
 simp only[W,V];refine⟨small _ (by simp),?_⟩;have hlen:=t.len;rw[xbp,xfx] at hlen;have ixl:∀x∈lv,st.length+1<=x.2.1:=fun x hx=>by
  rcases t.ix x hx with z | ⟨y,hy,_⟩
  ·rw[xbp,xfx] at z;exact z
  ·cases hy
 have wy:Wy st st.length st.length s.length (s++[.lst []]) lv []:=by
  refine⟨t.at_.more _,by simp;rfl,by lia,fun x hx=>xca (zh (t.at_.in_ x hx)),xbg _,by lia,fun x hx=>by have:=ixl x hx;lia,fun i hi=>?_,by rw[xbp];lia⟩;rw[xbf (by lia),t.keep i (by rw[xbp];lia) (by lia) fun q hq=>(by cases hq),xbf hi]
 have iv:Iv ks (113:Nat) (lvR lv) [] []:=by
  rw[t.eq];exact Iv.start K
 generalize s.length=M at wy;refine zpk (fun j σ s=>∃lv q w2 w4 w5 w6,σ=[some (sumD ks),some (.ref st.length),w2,some (.ref M),w4,w5,w6]/\Wy st st.length st.length M s lv q/\Iv ks (j:Int) (lvR lv) [] q/\q.length+15000 * j<=15000 * 113) (k:=113) ⟨lv,[],_,_,_,_,rfl,wy,iv,by simp⟩ (by lia) ?_;rintro j σ s ⟨lv,q,w2,w4,w5,w6,rfl,wy,iv,ql⟩;refine WP.of (zbae rfl wy.at_.at_) ?_;cases lv with
 | nil =>
  rw[if_neg (by simp[lvD])];simp only[W,V,Dd.M];refine⟨_,_,rfl,wy.stp,?_⟩;have e:=zgm (s:=s.set M .dead) (st:=st) (fun i hi=>by have:=wy.bM;rw[xbi (by lia)];exact wy.low i hi) (by rw[xcm];exact wy.bs);rw[e];exact k q _ ⟨iv.wk,iv.end_,by lia⟩
 | cons a lv0 =>
  rw[if_pos (by simp[lvD])];generalize hlv:a::lv0=lv at *
  have hne:lv≠[]:=by rw[← hlv];simp
  have hneR:lvR lv≠[]:=by rw[← hlv];simp[lvR]
  clear hlv a lv0;obtain⟨⟨l,hl⟩,_⟩:=zbaf hneR;obtain⟨y,hy,ey⟩:=xcb.mp (show(topL (lvR lv),l)∈lv.map fun q=>(q.1,q.2.2) from hl);have e1:y.1=topL (lvR lv):=congrArg Prod.fst ey;have e2:y.2.2=l:=congrArg Prod.snd ey;have ev:valI (lvD lv) (topL (lvR lv))=some (.ref y.2.1):=by
   rw[zpn];cases hf:lv.find? fun q=>decide (q.1=topL (lvR lv)) with
   | none=>exact absurd e1 (by simpa using List.find?_eq_none.mp hf y hy)
   | some z =>
    have h1:z.1=topL (lvR lv):=by simpa using List.find?_some hf
    rw[zqr wy.at_.nd (xkf hf) hy (h1.trans e1.symm)];rfl
  have eg:aCons (eCall bMaxI (aCons (eVar 1) aNil)) aNil [some (sumD ks),some (.ref st.length),w2,some (.ref M),w4,w5,w6] s=.ok [.int (topL (lvR lv))] s:=by
   rw[zgh,show eCall bMaxI (aCons (eVar 1) aNil) [some (sumD ks),some (.ref st.length),w2,some (.ref M),w4,w5,w6] s=_ from zbcs wy.at_.at_ hne]
   rfl
  unfold zrz;simp only[W,V];refine WP.of (zbbc rfl wy.at_.at_ eg ev) ?_;rw[zbcv]
  try simp only[W,V]
  have ynL:y.2.1≠st.length:=fun z=>by have:=wy.at_.in_ y hy;rw[z,wy.at_.at_] at this;cases this
  have in2:(s.set st.length (.dI (lvD (lessV lv (topL (lvR lv))))))[y.2.1]?=some (.dT (trueD l)):=by
   rw[xbi ynL.symm,← e2];exact wy.at_.in_ y hy
  have fl:=iv.g.few.2 _ hl;have fl:l.length<=15000:=fl;refine WP.of (zim in2 (by lia)) ⟨_,rfl,?_⟩;have iv2:=iv.next hl;have wy2:=wy.less (m:=topL (lvR lv));rw[← zbcu] at iv2;have sl:(sortR l).length=l.length:=zet l;have tj:topL (lvR lv) < j:=iv.lt _ hl;have t0:0<=topL (lvR lv):=(iv.g.key _ hl).1;refine zxl wy2 iv2.g (by lia) (fun r hr=>(iv.g.row _ hl r ((zn l).mem_iff.mp hr)).1) fun s3 lv3 q3 x2 x5 x6 wy3 ee g3 ql3=>?_
  refine⟨(topL (lvR lv)).toNat,by lia,lv3,q3,_,_,_,_,rfl,wy3,?_,by lia⟩;have iv3:=iv2.rows K;rw[← ee] at iv3;rw[Int.toNat_of_nonneg t0];exact iv3
theorem zpl {st:Store}{ks:List (List Int)}{q:List (List Int×Nat)}{Q:D->Store->Prop}(K:RwsOk ks)(w:Wkd ks q)(k:∀g,Q (sumD (sortR (Wke ks q))) (st++g)):WP (zfn [sumD ks,.lst (stpD q)] st) Q:=by
 refine zsa rfl ?_;simp only[W,V];refine WP.of (zlv K.nd (by have:=K.few;lia)) ?_
 try simp only[W,V]
 refine⟨_,rfl,?_⟩;refine zgs (fun i σ s=>∃v3 v4 g,σ=[some (sumD ks),some (.lst (stpD q)),some (.ref st.length),v3,v4]/\s=st++.dT (trueD (Wke ks (q.take i)))::g/\RwsOk (Wke ks (q.take i))/\Wkd (Wke ks (q.take i)) (q.drop i)) ⟨_,_,[],rfl,rfl,K,w⟩ ?_ ?_
 ·rintro i x σ s hx ⟨v3,v4,g,rfl,rfl,K',w'⟩;unfold stpD at hx;rw[xck] at hx;obtain⟨z,hz,rfl⟩:=xcs.mp hx;have hi:=(xbc.mp hz).1;have hd:q.drop i=z::q.drop (i+1):=by
   rw[xcu hi];congr 1;exact(xbc.mp hz).2
  have ht:q.take (i+1)=q.take i++[z]:=zo hz;rw[hd] at w';obtain⟨m1,m2,m3⟩:=w';have rok:=K'.row _ m1;have hg:=zks rok m2;refine⟨[some (sumD ks),some (.lst (stpD q)),some (.ref st.length),some (rowD z.1),some (.int z.2)],rfl,?_⟩;unfold zgi;simp only[W,V];obtain⟨g2,e⟩:=zkf (st:=st++.dT (trueD (Wke ks (q.take i)))::g) (n:=st.length) (p:=z.2) (by simp) K'.nd (by have:=K'.few;lia) m1 (by have:=rok.len;lia) m2 hg.1.1 (by lia) (by lia) (by lia);refine WP.of e ?_;simp only[L];refine⟨_,_,g++g2,rfl,?_,?_,?_⟩
  ·rw[ht,Wke.snoc];unfold stepK;simp
  ·rw[ht,Wke.snoc];exact(K'.step m1 m2).1
  ·rw[ht,Wke.snoc];exact m3
 ·rintro σ s ⟨v3,v4,g,rfl,rfl,K',w'⟩;rw[show(stpD q).length=q.length from xbd ..,xda] at *
  simp only[W,V];refine WP.of (zim (n:=st.length) (ks:=Wke ks q) (by simp) (by have:=K'.few;lia)) ?_;exact WP.of (show bTuple [.lst (rowsD (sortR (Wke ks q)))] _=.ok (sumD (sortR (Wke ks q))) _ from rfl) (k _)
theorem zpt {st:Store}{ks:List (List Int)}{Q:D->Store->Prop}(K:RwsOk ks)(k:∀g,Q (sumD (stl (nuS ks))) (st++g)):WP (zfo [sumD ks] st) Q:=by
 refine zsa rfl ?_;simp only[W,V];refine zbfe K fun q g w=>?_
 refine zpl K w.wk fun g2=>?_
 rw[zvz K w.wk w.fin,xcg];exact k _
end Dd
namespace Dd
open PySem L2 K13
section
variable {st:Store}{n:Nat}{Q:D->Store->Prop}
end
section
variable {st:Store}{n:Nat}{Q:D->Store->Prop}
end
end Dd
namespace K13
end K13
namespace Dd
open PySem L2 K13
theorem znb {f:SE}{g:SA}{σ:DS}{st:Store}{Q:D->Store->Prop}:WP (eExtend f g σ st) Q=WP (f σ st) (fun x st1=>∃n xs0,x=.ref n/\st1[n]?=some (.lst xs0)/\WP (g σ st1) (fun ys st2=>∃y xs zs,ys=[y]/\st2[n]?=some (.lst xs)/\asL st2 y=some zs/\xs.length+zs.length<=sizeLine/\Q .non (st2.set n (.lst (xs++zs))))):=by
 rw[ztx,zi]
 congr
 funext x st1
 apply propext;constructor
 ·intro q;split at q
  ·rename_i n xs0 e;rw[zi] at q;have e':st1[n]?=some (.lst xs0):=by
    unfold asL at e;dsimp only at e;split at e
    ·cases e;assumption
    ·cases e
   refine⟨n,xs0,rfl,e',q.mono fun ys st2 h=>?_⟩;split at h
   ·split at h
    ·split at h
     ·exact⟨_,_,_,rfl,by assumption,by assumption,by assumption,h⟩
     ·exact h.elim
    ·exact h.elim
   ·exact h.elim
  ·exact q.elim
 ·rintro⟨n,xs0,rfl,e,q⟩;rw[zji e];dsimp only;rw[zi];refine q.mono fun ys st2 h=>?_
  obtain⟨y,xs,zs,rfl,e2,e3,hl,h⟩:=h;rw[e2];dsimp only;rw[e3];dsimp only;rw[if_pos hl];exact h
section
variable {st:Store}{n:Nat}{Q:D->Store->Prop}
end
end Dd
namespace Dd
open PySem L2 K07 K23
section
variable {st:Store}{n:Nat}{Q:D->Store->Prop}
theorem zze {a b:Int}{i:Nat}:cutD [D.int (a+b - i),D.int i] none (some (1+if(1:Int) < i then 1 else(i:Int)))=(rowC a b i).map D.int:=by
 unfold rowC;by_cases c:i=0
 ·subst c;rw[if_neg (by decide)];have:=zzd [D.int (a+b - (0:Nat)),D.int (0:Nat)] 1;refine this.trans ?_;simp
 ·have h:(1+if(1:Int) < i then 1 else(i:Int))=((2:Nat):Int):=by split<;>lia
  rw[h,if_pos (by lia)];exact zzd _ 2
theorem zqk {e k:Int}:oddW e k=true↔Builtin.bitAnd e k=k:=by
 unfold oddW;rw[xhh];exact⟨fun h=>by injection h,fun h=>by rw[h]⟩
theorem zmi {a b:Int}(ha:1<=a)(ha2:a<=40)(hb:1<=b)(hb2:b<=40)(hab:a < 2 * b)(k:∀g,Q (.lst (rowsD (rowsL a b (a / 2+1).toNat))) (st++g)):WP (zcm [.int a,.int b] st) Q:=by
 refine zsa rfl ?_;simp only[W,V];refine⟨small _ (by simp),zbdq (by lia) (by lia),_,rfl,rngN (by lia) (by lia),?_⟩;refine zgs (fun i σ s=>(∃v,σ=[some (.int a),some (.int b),some (.ref st.length),v])/\s=st++[.lst (rowsD (rowsL a b i))]) ⟨⟨_,rfl⟩,rfl⟩ ?_ ?_
 ·rintro i x σ s hx ⟨⟨v,rfl⟩,rfl⟩;obtain⟨hi,rfl⟩:=zhg hx;have hi2:2 * (i:Int)<=a:=by lia
  refine⟨[some (.int a),some (.int b),some (.ref st.length),some (.int (0+i))],rfl,?_⟩;rw[xhn];have hl:=zdj a b i;have hn:(st++[O.lst (rowsD (rowsL a b i))])[st.length]?=some (.lst (rowsD (rowsL a b i))):=by simp
  have m:CMul 2 (i:Int):=.inl ⟨by decide,by decide⟩;unfold zer;simp only[W,V,M];refine⟨trivial,trivial,m,trivial,trivial,m,trivial,?_⟩;split
  ·rename_i c;refine⟨_,_,rfl,hn,trivial,small _ (by simp),_,rfl,.inl ⟨_,rfl,_,_,rfl,hn,by rw[zg];exact smallT _ (by lia),?_⟩⟩;simp only[L];refine⟨⟨_,rfl⟩,?_⟩;rw[zze,znj (zqk.mpr c)];simp[rowsD]
  ·rename_i c;simp only[L];refine⟨⟨_,rfl⟩,?_⟩;rw[zpz fun z=>c (zqk.mp z)]
 ·rintro σ s ⟨⟨v,rfl⟩,rfl⟩;rw[zcc];simp only[W,V,M];refine⟨_,_,rfl,by simp;rfl,?_⟩;have:=k [.dead]
  simpa using this
noncomputable def exU (r:List Int) (p:Nat):List (List Int):=(rowsL (r.getD p 0) (r.getD (p+1) 0) (r.getD p 0 / 2+1).toNat).map fun two=>r.take p++two++r.drop (p+2)
theorem zra (r:List Int)(p:Nat):(exRow r p).Perm (exU r p):=(zn _).map _
theorem zvp (r:List Int)(p:Nat):(exU r p).length<=(r.getD p 0 / 2+1).toNat:=by unfold exU;rw[xbd];exact zdj _ _ _
structure Two (st:Store) (A B:Nat) (xs ys:List D) (s:Store):Prop where
 a:s[A]?=some (.lst xs)
 b:s[B]?=some (.lst ys)
 ne:A≠B
 bA:st.length<=A
 bB:st.length<=B
 low:∀i,i < st.length->s[i]?=st[i]?
theorem Two.more {s:Store}{A B:Nat}{xs ys:List D}(h:Two st A B xs ys s)(g:Store):Two st A B xs ys (s++g):=by
 have h1:=zh h.a;refine⟨by rw[xbf h1];exact h.a,by rw[xbf (zh h.b)];exact h.b,h.ne,h.bA,h.bB,fun i hi=>?_⟩;rw[xbf (by have:=h.bA;lia)];exact h.low i hi
theorem Two.putA {s:Store}{A B:Nat}{xs ys zs:List D}(h:Two st A B xs ys s):Two st A B zs ys (s.set A (.lst zs)):=by
 refine⟨zcx (zh h.a),by rw[xbi h.ne];exact h.b,h.ne,h.bA,h.bB,fun i hi=>?_⟩;rw[xbi (by have:=h.bA;lia)];exact h.low i hi
theorem Two.putB {s:Store}{A B:Nat}{xs ys zs:List D}(h:Two st A B xs ys s):Two st A B xs zs (s.set B (.lst zs)):=by
 refine⟨by rw[xbi h.ne.symm];exact h.a,zcx (zh h.b),h.ne,h.bA,h.bB,fun i hi=>?_⟩;rw[xbi (by have:=h.bB;lia)];exact h.low i hi
theorem zbdg {s:Store}{l:List Nat}:oEqG false (.lst (plD l)) (.lst []) s=.ok (.bl (decide (l=[]))) s:=by
 have h:=zbcd (st:=s) (ns:=l.map fun p:Nat=>(p:Int));rw[xdr] at h;refine Eq.trans h ?_
 congr 2
 simp
theorem ztb {a0 a1 a2 a3 a5 a6:Option D}{r:List Int}(hl:r.length<=1000)(k:Q (.lst (plD (placesL r))) st):WP (eComp (iR1 (aCons (eOp oSub (eCall bLen (aCons (eVar 4) aNil)) (eC (.int 1))) aNil)) 1 [4] (gN 0) (eB (eOp oLtT (eOp oIx (eVar 1) (eVar 0)) (eOp oMulI (eC (.int 2)) (eOp oIx (eVar 1) (eOp oAdd (eVar 0) (eC (.int 1))))))) (eVar 0) [a0,a1,a2,a3,some (rowD r),a5,a6] st) Q:=by
 simp only[W,V];rw[show(((r.map D.int).length:Nat):Int)=(r.length:Int) by simp];have hb:(r.length:Int)<=1000:=by lia
 refine⟨trivial,_,rfl,rngN (by lia) (by lia),by rw[zcc];exact small _ (by lia),?_⟩;have ek:((r.length:Int) - 1).toNat=r.length - 1:=by lia
 rw[ek];unfold rng;refine zvy (fun σ=>∃v,σ=[v,some (rowD r)]) (fun p:Nat=>decide (slowAt r p)) (fun p:Nat=>D.int p) (fun p:Nat=>D.int (0+p)) ⟨_,rfl⟩ ?_ k;rintro p hp σ ⟨v,rfl⟩;have hp:=xcj.mp hp;have g1:r[p]?=some r[p]:=xbe (by lia);have g2:r[p+1]?=some r[p+1]:=xbe (by lia);have e3:=fun s=>zgf (st:=s) g1
 have e4:=fun s=>zgf (st:=s) g2
 rw[xha] at e4;rw[xhn];refine⟨_,rfl,⟨_,rfl⟩,?_,fun _=>?_⟩
 ·simp only[W,V];refine WP.of (e3 _) (WP.of (e4 _) ?_);simp only[W,V];refine⟨.inl ⟨by decide,by decide⟩,trivial,?_⟩;rw[decide_eq_decide];exact⟨fun z=>⟨_,_,g1,g2,z⟩,fun⟨x,y,z1,z2,z⟩=>by rw[g1] at z1;rw[g2] at z2;cases z1;cases z2;exact z⟩
 ·simp only[W,V];exact⟨trivial,trivial⟩
end
section
variable {st:Store}{n:Nat}{Q:D->Store->Prop}
theorem zbho {a0 a1 a2 a3 a5:Option D}{r:List Int}{p:Nat}{s:Store}(rok:RowOk r 16 6)(hs:slowAt r p)(k:∀g,Q (.lst (rowsD (exU r p))) (s++g)):WP (eComp (iSeq (eCall zcm (aCons (eOp oIx (eVar 4) (eVar 6)) (aCons (eOp oIx (eVar 4) (eOp oAdd (eVar 6) (eC (.int 1)))) aNil)))) 1 [4,6] (gN 0) bYes (eOp oAdd (eOp oAdd (eSl (eVar 1) pNone (pSome (eVar 2))) (eVar 0)) (eSl (eVar 1) (pSome (eOp oAdd (eVar 2) (eC (.int 2)))) pNone)) [a0,a1,a2,a3,some (rowD r),a5,some (.int p)] s) Q:=by
 have hgd:=zks rok hs;have hp:p+1 < r.length:=by obtain⟨a,b,_,z,_⟩:=hs;exact(xbc.mp z).1
 have hab:r.getD p 0 < 2 * r.getD (p+1) 0:=by
  obtain⟨a,b,e1,e2,h⟩:=hs;rw[xbh,e1,xbh,e2];exact h
 have g1:r[p]?=some (r.getD p 0):=by rw[xbh,xbe (by lia)];rfl
 have g2:r[p+1]?=some (r.getD (p+1) 0):=by rw[xbh,xbe (by lia)];rfl
 have e3:=fun s=>zgf (st:=s) g1
 have e4:=fun s=>zgf (st:=s) g2
 rw[xha] at e4;have rl:=rok.len;unfold exU at k;generalize r.getD p 0=a at *
 generalize r.getD (p+1) 0=b at *
 simp only[W,V];refine WP.of (e3 _) (WP.of (e4 _) ?_);refine zmi (by lia) (by lia) (by lia) (by lia) hab fun g=>⟨_,rfl,by rw[zg];exact small _ (by have:=zdj a b (a / 2+1).toNat;lia),?_⟩
 have c1:=zvt r p;have c2:=zok r (p+2);rw[xha] at c2;unfold rowsD;refine zvy (fun σ=>∃v,σ=[v,some (rowD r),some (.int p)]) (fun _=>true) (fun two=>rowD (r.take p++two++r.drop (p+2))) rowD ⟨_,rfl⟩ ?_ ?_
 ·rintro two ht σ ⟨v,rfl⟩;have h2:two.length<=2:=ziu two ht;refine⟨_,rfl,⟨_,rfl⟩,by simp only[W,and_self],fun _=>?_⟩;simp only[W,V,M];refine⟨_,rfl,.inl ⟨_,rfl,?_⟩⟩;rw[c1];have l1:(r.take p).length<=100:=by rw[xco];lia
  have l2:(r.drop (p+2)).length<=100:=by rw[xer];lia
  refine⟨by rw[xbd,xbd];exact small _ (by lia),_,rfl,.inl ⟨_,rfl,?_⟩⟩;rw[show(p:Int)+2=(p:Int)+(2:Nat) from rfl,c2];refine⟨by rw[xbp,xbd,xbd,xbd];exact small _ (by lia),trivial,?_⟩;simp[rowD]
 ·rw[zoa];have:=k g;rw[show rowsD ((rowsL a b (a / 2+1).toNat).map fun two=>r.take p++two++r.drop (p+2))=(rowsL a b (a / 2+1).toNat).map fun two=>rowD (r.take p++two++r.drop (p+2)) from by unfold rowsD;rw[xdr];rfl] at this;exact this
theorem zbjm {f:SE}{σ:DS}{Q:List D->Store->Prop}:WP (aCons f aNil σ st) Q=WP (f σ st) (fun x s=>Q [x] s):=by simp only[W]
noncomputable def stB (r:List Int):Bool:=decide (placesL r=[])
theorem zbcx {l:List Nat}(h:l≠[])(s:Store):∃p∈l,oIx (.lst (plD l)) (.int (-1)) s=.ok (.int p) s:=by
 refine⟨l.getLast h,List.getLast_mem h,zjr (xs:=plD l) rfl ?_⟩;have hl:0 < l.length:=List.length_pos_iff.mpr h;have e:plD l=plD l.dropLast++[D.int (l.getLast h)]:=by
  conv=>lhs;rw[← List.dropLast_concat_getLast h]
  simp
 rw[e];exact zzl _ _
structure Fur (m:Int) (ws fu:List (List Int)):Prop where
 row:∀r∈fu,RowOk r 16 6/\momR 1 r < m
 nus:nuS (ws.filter stB) ^^^ nuS fu=nuS ws
 len:fu.length<=9 * ws.length
theorem Fur.steep {m:Int}{ws fu:List (List Int)}{r:List Int}(h:Fur m ws fu)(hr:placesL r=[]):Fur m (ws++[r]) fu:=by
 refine⟨h.row,?_,by rw[xbp];have:=h.len;lia⟩;rw[xdu,xdd (by unfold stB;exact xcc hr),xjn,zcp,zcp,← h.nus,xea,xko (nuS [r]),← xea]
theorem Fur.ex {m:Int}{ws fu:List (List Int)}{r:List Int}{p:Nat}(h:Fur m ws fu)(rok:RowOk r 16 6)(hs:slowAt r p)(hm:momR 1 r<=m):Fur m (ws++[r]) (fu++exU r p):=by
 have hn:¬ placesL r=[]:=fun z=>zwb z p hs
 refine⟨fun x hx=>?_,?_,?_⟩
 ·rcases xch.mp hx with hx | hx
  ·exact h.row x hx
  ·have hx:=(zra r p).mem_iff.mpr hx;have:=zqs rok.pos hs hx;exact⟨zgo rok hs x hx,by lia⟩
 ·rw[xdu,xdc (by unfold stB;rw[xby hn];decide),xjn,xep,zcp,zcp,← h.nus,← zjt (zra r p),zbch rok hs,xea];show _=nuS _ ^^^ (nuS fu ^^^ (nu r ^^^ 0));rw[xjm]
 ·have h1:=h.len;have h2:=zvp r p;have h3:=(zks rok hs).1.2;rw[xbp,xbp,xfx];lia
theorem zbad {a0 v4 v5 v6:Option D}{A B:Nat}{ws sp:List (List Int)}{s:Store}{m:Int}{QQ:Fl->Store->Prop}(K:RwsOk ws)(hm:∀r∈ws,momR 1 r<=m)(t:Two st A B (rowsD sp) [] s)(hsp:sp.length<=100000)
  (k:∀fu s' w4 w5 w6,Fur m ws fu->Two st A B (rowsD (sp++ws.filter stB)) (rowsD fu) s'->QQ (.nx [a0,some (sumD ws),some (.ref A),some (.ref B),w4,w5,w6]) s') :
  WP (forF (gN 4) zct (rowsD ws) [a0,some (sumD ws),some (.ref A),some (.ref B),v4,v5,v6] s) QQ:=by
 have few:=K.few;refine zgs (fun i σ s=>∃fu w4 w5 w6,σ=[a0,some (sumD ws),some (.ref A),some (.ref B),w4,w5,w6]/\Fur m (ws.take i) fu/\Two st A B (rowsD (sp++(ws.take i).filter stB)) (rowsD fu) s) ⟨[],_,_,_,rfl,⟨fun r hr=>(by cases hr),by simp[nuS],by simp⟩,by simpa using t⟩ ?_ ?_
 ·rintro i x σ s hx ⟨fu,w4,w5,w6,rfl,F,t⟩;obtain⟨r,hg,rfl⟩:=zca hx;have hi:=(xbc.mp hg).1;have hrm:=xbs hg;have rok:=K.row r hrm;have rl:=rok.len;refine⟨[a0,some (sumD ws),some (.ref A),some (.ref B),some (rowD r),w5,w6],rfl,?_⟩;have l1:(sp++(ws.take i).filter stB).length<=200000:=by
   have:=xfy stB (ws.take i);rw[xco] at this;rw[xbp];lia
  have l2:=F.len;rw[xco] at l2;unfold zct;rw[zzv];obtain⟨v',s',eo,hv,hs'⟩:=(ztb (st:=s) (a0:=a0) (a1:=some (sumD ws)) (a2:=some (.ref A)) (a3:=some (.ref B)) (a5:=w5) (a6:=w6) (r:=r) (Q:=fun v s'=>v=.lst (plD (placesL r))/\s'=s) (by lia) ⟨rfl,rfl⟩).get;rw[hv,hs'] at eo;clear hv hs';refine WP.of (show sSet 5 _ _ _=.ok (.nx [a0,some (sumD ws),some (.ref A),some (.ref B),some (rowD r),some (.lst (plD (placesL r))),w6]) _ from by rw[zbfr,eo];rfl) ?_;simp only[W,V];refine⟨small _ (by simp),WP.of zbdg ?_⟩;simp only[W,V];by_cases hp:placesL r=[]
  ·rw[if_pos hp];simp only[W,V,M];refine⟨_,_,rfl,t.a,_,_,rfl,t.a,by rw[zg];exact smallT _ (by lia),?_⟩;simp only[L];refine⟨fu,_,_,_,rfl,by rw[zo hg];exact F.steep hp,?_⟩;rw[zo hg,xdu,xdd (by unfold stB;exact xcc hp),xjn,← xcg];have:=t.putA (zs:=rowsD (sp++(ws.take i).filter stB)++[rowD r]);rw[show rowsD (sp++(ws.take i).filter stB)++[rowD r]=rowsD (sp++(ws.take i).filter stB++[r]) from by simp[rowsD]] at this;rw[show rowsD (sp++(ws.take i).filter stB)++[rowD r]=rowsD (sp++(ws.take i).filter stB++[r]) from by simp[rowsD]];exact this
  ·rw[if_neg hp];obtain⟨p,hpm,e⟩:=zbcx hp s;have hs:=zfg.mp hpm
   try simp only[W,V]
   refine WP.of e ?_
   try simp only[W,V]
   rw[znb];refine WP.of (show eVar 3 [a0,some (sumD ws),some (.ref A),some (.ref B),some (rowD r),some (.lst (plD (placesL r))),some (.int p)] _=.ok (.ref B) _ from rfl) ⟨_,_,rfl,t.b,?_⟩;rw[zbjm];refine zbho rok hs fun g=>?_
   have t2:=t.more g;have l3:=zvp r p;have l4:=(zks rok hs).1.2;refine⟨_,_,_,rfl,t2.b,rfl,by rw[zg,zg];exact small _ (by lia),?_⟩;simp only[L];refine⟨fu++exU r p,_,_,_,rfl,by rw[zo hg];exact F.ex rok hs (hm r hrm),?_⟩;rw[zo hg,xdu,xdc (by unfold stB;rw[xby hp];decide),xjn,xep];have:=t2.putB (zs:=rowsD fu++rowsD (exU r p));rw[show rowsD (fu++exU r p)=rowsD fu++rowsD (exU r p) from by simp[rowsD]];exact this
 ·rintro σ s ⟨fu,w4,w5,w6,rfl,F,t⟩;rw[zg,xda] at F t;exact k fu s w4 w5 w6 F t
theorem zsn {l:List (List Int)}(nd:l.Nodup)(h:StOk16 l):l.length<=84:=by
 have:=zns nd fun r hr=>by
  obtain⟨i,e,_⟩:=zjs (h r hr).1 (h r hr).2;exact xbs e
 rwa [zfy] at this
theorem zjz {x:D}{l:List (List Int)}(hx:seqV x=some (rowsD l))(hr:∀r∈l,RowOk r 16 6)(hl:l.length<=1000000)(k:∀g,Q (sumD (stl (nuS l))) (st++g)):WP (zce [x] st) Q:=by
 refine zsa rfl ?_;simp only[W,V];obtain⟨g0,e0⟩:=zgb (st:=st) hx hl (by have:=zfx l;lia);refine WP.of e0 ⟨small _ (by simp),?_⟩;generalize hA:(st++g0).length=A;have hA2:st.length<=A:=by rw[← hA,xbp];lia
 refine zpk (fun j σ s=>∃ws sp v3 v4 v5 v6,σ=[some x,some (sumD ws),some (.ref A),v3,v4,v5,v6]/\RwsOk ws/\(∀r∈ws,momR 1 r < j)/\StOk16 sp/\nuS sp ^^^ nuS ws=nuS l/\sp.length+84 * j<=84 * 113/\s[A]?=some (.lst (rowsD sp))/\∀i,i < st.length->s[i]?=st[i]?) (k:=113) ?_ (by lia) ?_
 ·refine⟨oddS l,[],_,_,_,_,rfl,⟨zky l,fun r h=>hr r (zhk h)⟩,fun r h=>?_,fun r h=>(by cases h),?_,by simp,by rw[← hA];simp,fun i hi=>?_⟩
  ·have:=ztk (hr r (zhk h));lia
  ·rw[zqm];exact xjl _
  ·rw[xcg,xbf hi]
 ·rintro j σ s ⟨ws,sp,v3,v4,v5,v6,rfl,K,hm,S,hn,hlen,hs,low⟩;simp only[W,V];rw[show(((rowsD ws).length:Nat):Int)=(ws.length:Int) by rw[zg]];refine⟨trivial,?_⟩;cases ws with
  | nil =>
   rw[if_neg (by simp)];simp only[W,V,M];refine⟨_,_,rfl,hs,?_⟩;obtain⟨g1,e1⟩:=zgb (st:=s.set A .dead) (x:=.lst (rowsD sp)) (l:=sp) rfl (by lia) (by have:=zfx sp;lia);refine WP.of e1 ?_;have hls:st.length<=s.length:=by have:=zh hs;lia
   have e2:=zgm (s:=s.set A .dead) (st:=st) (fun i hi=>by rw[xbi (by lia)];exact low i hi) (by rw[xcm];exact hls);have e3:oddS sp=stl (nuS l):=by
    have h1:StOk16 (oddL sp):=fun r h=>S r (zhk (by unfold oddS;rw[(zn _).mem_iff];exact h))
    have h2:=zbak h1 (zfe sp);have h3:nuS (oddL sp)=nuS sp:=by rw[← zqm sp];unfold oddS;exact(zjt (zn _)).symm
    rw[h3,show nuS sp=nuS l by rw[← hn];exact(xjm _).symm] at h2;exact h2
   rw[e2,e3,xcg];exact k _
  | cons r0 ws0 =>
   generalize hws:r0::ws0=ws at *
   have hpos:0 < ws.length:=by rw[← hws];simp
   clear hws r0 ws0;rw[if_pos (by lia)];have hj:0 < j:=by
    obtain⟨r,hr⟩:=List.exists_mem_of_length_pos hpos;have h1:=hm r hr;have h2:=ztk (K.row r hr);lia
   unfold zeb;simp only[W,V];refine⟨small _ (by simp),_,rfl,?_⟩;have hAs:=zh hs;have t:Two st A s.length (rowsD sp) [] (s++[.lst []]):=⟨by rw[xbf hAs];exact hs,by simp,by lia,hA2,by lia,fun i hi=>by rw[xbf (by lia)];exact low i hi⟩
   generalize s.length=B at t;refine zbad (m:=(j:Int) - 1) K (fun r hr=>by have:=hm r hr;lia) t (by lia) fun fu s' w4 w5 w6 F t'=>?_
   simp only[W,V,M];refine⟨_,_,rfl,t'.b,?_⟩;have few:=K.few;have fl:=F.len;obtain⟨g1,e1⟩:=zgb (st:=s'.set B .dead) (x:=.lst (rowsD fu)) (l:=fu) rfl (by lia) (by have:=zfx fu;lia);refine WP.of e1 ?_;simp only[L];have sf:StOk16 (ws.filter stB):=fun r h=>by
    obtain⟨h1,h2⟩:=xcw.mp h;exact⟨K.row r h1,zwb (xdk h2)⟩
   have sl:=zsn (K.nd.filter stB) sf;have hBs:=zh t'.b;refine⟨j - 1,by lia,oddS fu,sp++ws.filter stB,_,_,_,_,rfl,⟨zky fu,fun r h=>(F.row r (zhk h)).1⟩,fun r h=>?_,fun r h=>?_,?_,?_,?_,fun i hi=>?_⟩
   ·have:=(F.row r (zhk h)).2;lia
   ·rcases xch.mp h with h | h
    ·exact S r h
    ·exact sf r h
   ·rw[zqm,zcp,xea,F.nus,hn]
   ·rw[xbp];lia
   ·rw[xbf (by rw[xcm];exact zh t'.a),xbi t'.ne.symm];exact t'.a
   ·have:=t'.bB;rw[xbf (by rw[xcm];lia),xbi (by lia)];exact t'.low i hi
end
noncomputable def ptT:List (List (List Int)):=[[[]],[[1]],[[2]],[[2,1]],[[3,1],[4]],[[4,1]],[[4,2]],[[4,2,1]],[[5,2,1],[6,2],[7,1],[8]],[[6,2,1],[8,1]],[[6,3,1],[7,3],[8,2]],[[7,3,1],[8,2,1]],[[8,3,1],[8,4]],[[8,4,1]],[[8,4,2]],[[8,4,2,1]],[[9,4,2,1],[10,4,2],[11,4,1],[12,3,1],[12,4],[13,2,1],[14,2],[15,1],[16]]]
noncomputable def ptR (k:Nat):List (List Int):=(List.range k).flatMap fun i=>(ptT.getD (k - 1 - i) []).map fun r=>((i+1:Nat):Int)::r
noncomputable def rowQ (r:List Int):Bool:=(r.all fun x=>decide (1<=x))&&decide (r.sum<=16)&&Nat.ble r.length 6
theorem zbfz:((List.range 16).all fun k=>decide (stl (nuS (ptR (k+1)))=ptT.getD (k+1) [])&&(ptR (k+1)).all rowQ&&decide (ptR (k+1)).Nodup&&Nat.ble (ptR (k+1)).length 1000)=true:=by decide +kernel
theorem zuu:ptT.length=17/\(ptT.all fun l=>Nat.ble l.length 100&&l.all fun r=>Nat.ble r.length 6)=true:=by decide +kernel
theorem zbas {r:List Int}(h:rowQ r=true):RowOk r 16 6:=by
 unfold rowQ at h;rw[xdp,xdp] at h;exact⟨fun x hx=>xdk (xdq.mp h.1.1 x hx),xdk h.1.2,xgc h.2⟩
structure Ptk (k:Nat):Prop where
 eq:stl (nuS (ptR k))=ptT.getD k []
 ok:RwsOk (ptR k)
 len:(ptR k).length<=1000
theorem zbfy {k:Nat}(h:1<=k)(h2:k<=16):Ptk k:=by
 have:=xdq.mp zbfz (k - 1) (xcj.mpr (by lia));rw[show k - 1+1=k by lia,xdp,xdp,xdp] at this;obtain⟨⟨⟨a,b⟩,c⟩,d⟩:=this;exact⟨xdk a,⟨xdk c,fun r hr=>zbas (xdq.mp b r hr)⟩,xgc d⟩
theorem zsu {k:Nat}(h:k<=16):ptT[k]?=some (ptT.getD k []):=by
 rw[xbh,xbe (by rw[zuu.1];lia)];rfl
theorem zbau {k:Nat}(h:k<=16):(ptT.getD k []).length<=100/\∀r∈ptT.getD k [],r.length<=6:=by
 have:=xdq.mp zuu.2 _ (xbs (zsu h));rw[xdp] at this;exact⟨xgc this.1,fun r hr=>xgc (xdq.mp this.2 r hr)⟩
section
variable {st:Store}{n:Nat}{Q:D->Store->Prop}
theorem zut {a0 v4:Option D}{A B k:Nat}{s:Store}{QQ:Fl->Store->Prop}(h1:1<=k)(h2:k<=16)(t:Two st A B ((ptT.take k).map sumD) [] s)
  (q:∀s' w4,Two st A B ((ptT.take k).map sumD) (rowsD (ptR k)) s'->QQ (.nx [a0,some (.ref A),some (.int k),some (.ref B),w4]) s') :
  WP (forF (gN 4) zbd (rng 1 k) [a0,some (.ref A),some (.int k),some (.ref B),v4] s) QQ:=by
 have P:=zbfy h1 h2;have key:∀i,i<=k->(((List.range i).flatMap fun i=>(ptT.getD (k - 1 - i) []).map fun r=>((i+1:Nat):Int)::r)).length<=1000:=fun i hi=>by
  refine xbb ?_ P.len;unfold ptR;rw[show k=i+(k - i) by lia,List.range_add,List.flatMap_append,xbp,show i+(k - i)=k by lia];lia
 refine zgs (fun i σ s=>∃w4,σ=[a0,some (.ref A),some (.int k),some (.ref B),w4]/\Two st A B ((ptT.take k).map sumD) (rowsD ((List.range i).flatMap fun i=>(ptT.getD (k - 1 - i) []).map fun r=>((i+1:Nat):Int)::r)) s) ⟨_,rfl,t⟩ ?_ ?_
 ·rintro i x σ s hx ⟨w4,rfl,t⟩;obtain⟨hi,rfl⟩:=zhg hx;refine⟨[a0,some (.ref A),some (.int k),some (.ref B),some (.int (1+i))],rfl,?_⟩;unfold zbd;have ix:oIx (.ref A) (.int ((k:Int) - (1+i))) s=.ok (sumD (ptT.getD (k - 1 - i) [])) s:=by
   rw[show(k:Int) - (1+i)=((k - 1 - i:Nat):Int) by lia];refine zjr (xs:=(ptT.take k).map sumD) (zjk t.a) (zmu ?_);rw[xck,xid (by lia),zsu (by lia)];rfl
  have few:=zbau (k:=k - 1 - i) (by lia);have k1:=key i (by lia);simp only[W,V];rw[znb];refine WP.of (show eVar 3 [a0,some (.ref A),some (.int k),some (.ref B),some (.int (1+i))] s=.ok (.ref B) s from rfl) ⟨_,_,rfl,t.b,?_⟩;rw[zbjm];simp only[W,V];refine⟨trivial,WP.of ix ⟨_,rfl,by rw[zg];exact small _ (by lia),?_⟩⟩;refine zvy (as:=ptT.getD (k - 1 - i) []) (fun σ=>∃v,σ=[v,some (.int (1+i))]) (fun _=>true) (fun r=>rowD (((i+1:Nat):Int)::r)) rowD ⟨_,rfl⟩ ?_ ?_
  ·rintro r hr σ ⟨v,rfl⟩;refine⟨_,rfl,⟨_,rfl⟩,by simp only[W,and_self],fun _=>?_⟩;have:=few.2 r hr;simp only[W,V];refine⟨small _ (by simp),by rw[xbd];exact small _ (by simp;lia),trivial,?_⟩;rw[show(1:Int)+i=((i+1:Nat):Int) by lia]
   rfl
  ·rw[zoa];refine⟨_,_,_,rfl,t.b,rfl,by rw[zg,xbd];exact small _ (by lia),?_⟩;simp only[L];refine⟨_,rfl,?_⟩;rw[xhy,List.flatMap_append,List.flatMap_singleton];have:=t.putB (zs:=rowsD ((List.range i).flatMap fun i=>(ptT.getD (k - 1 - i) []).map fun r=>((i+1:Nat):Int)::r)++(ptT.getD (k - 1 - i) []).map fun r=>rowD (((i+1:Nat):Int)::r));rw[show rowsD ((List.range i).flatMap (fun i=>(ptT.getD (k - 1 - i) []).map fun r=>((i+1:Nat):Int)::r)++(ptT.getD (k - 1 - i) []).map fun r=>((i+1:Nat):Int)::r)=rowsD ((List.range i).flatMap fun i=>(ptT.getD (k - 1 - i) []).map fun r=>((i+1:Nat):Int)::r)++(ptT.getD (k - 1 - i) []).map fun r=>rowD (((i+1:Nat):Int)::r) from by unfold rowsD;rw[xdw,xdr];rfl];exact this
 ·rintro σ s ⟨w4,rfl,t⟩;rw[zcc] at t;exact q s w4 t
theorem zus {k:Nat}(h:k<=16):(ptT.take (k+1)).map sumD=(ptT.take k).map sumD++[sumD (ptT.getD k [])]:=by
 rw[zo (zsu h),xdw];rfl
theorem zto {k:Nat}{ei:Int}(ee:ei=k)(h:k<=16)(q:∀g,Q (.lst ((ptT.take (k+1)).map sumD)) (st++g)):WP (zbe [.int ei] st) Q:=by
 refine zsa rfl ?_;subst ee;simp only[W,V];refine⟨small _ (by simp),small _ (by simp),small _ (by simp),_,_,rfl,rngN (by lia) (by lia),rngN (by lia) (by lia),?_⟩;rw[show((k:Int)+1 - 1).toNat=k by lia];refine zgs (fun i σ s=>∃v2 v3 v4,σ=[some (.int k),some (.ref st.length),v2,v3,v4]/\s[st.length]?=some (.lst ((ptT.take (i+1)).map sumD))/\∀j,j < st.length->s[j]?=st[j]?) ⟨_,_,_,rfl,by simp;rfl,fun j hj=>by rw[xbf hj]⟩ ?_ ?_
 ·rintro i x σ s hx ⟨v2,v3,v4,rfl,hs,low⟩;obtain⟨hi,rfl⟩:=zhg hx;refine⟨[some (.int k),some (.ref st.length),some (.int ((i+1:Nat):Int)),v3,v4],by rw[show(1:Int)+i=((i+1:Nat):Int) by lia];rfl,?_⟩;unfold zci;simp only[W,V];refine⟨small _ (by simp),_,_,rfl,rngN (by lia) (by lia),rngN (by lia) (by lia),?_⟩;rw[show(((i+1:Nat):Int)+1 - 1).toNat=i+1 by lia];have hA:=zh hs;have t:Two st st.length s.length ((ptT.take (i+1)).map sumD) [] (s++[.lst []]):=⟨by rw[xbf hA];exact hs,by simp,by lia,xbg _,by lia,fun j hj=>by rw[xbf (by lia)];exact low j hj⟩
  refine zut (k:=i+1) (by lia) (by lia) t fun s' w4 t'=>?_
  have P:=zbfy (k:=i+1) (by lia) (by lia);simp only[W,V,M];refine⟨_,_,rfl,t'.a,_,_,rfl,t'.b,?_⟩;refine zjz (l:=ptR (i+1)) rfl P.ok.row (by have:=P.len;lia) fun g=>?_
  have t3:(s'.set s.length .dead++g)[st.length]?=some (.lst ((ptT.take (i+1)).map sumD)):=by
   rw[xbf (by rw[xcm];exact zh t'.a),xbi t'.ne.symm];exact t'.a
  refine⟨_,_,rfl,t3,by rw[xbd,xco];exact smallT _ (by lia),?_⟩;simp only[L];refine⟨_,_,_,rfl,?_,fun j hj=>?_⟩
  ·rw[zcx (zh t3),zus (k:=i+1) (by lia),P.eq]
  ·have:=zh t'.b;have:=t'.bB;rw[xbi (by lia),xbf (by rw[xcm];lia),xbi (by lia)];exact t'.low j hj
 ·rintro σ s ⟨v2,v3,v4,rfl,hs,low⟩;rw[zcc] at hs;simp only[W,V,M];refine⟨_,_,rfl,hs,?_⟩;have e2:=zgm (s:=s.set st.length .dead) (st:=st) (fun i hi=>by rw[xbi (by lia)];exact low i hi) (by rw[xcm];have:=zh hs;lia);rw[e2];exact q _
theorem zbkk {k:Nat}{ei:Int}(ee:ei=k)(h:k<=16)(q:∀g,Q (.lst ((ptT.take (k+1)).map sumD)) (st++g)):WP (zbs [.int ei] st) Q:=by
 refine zsa rfl ?_;subst ee;simp only[W,V];refine⟨small _ (by simp),small _ (by simp),small _ (by simp),_,_,rfl,rngN (by lia) (by lia),rngN (by lia) (by lia),?_⟩;rw[show((k:Int)+1 - 1).toNat=k by lia];refine zgs (fun i σ s=>∃v2 v3 v4,σ=[some (.int k),some (.ref st.length),v2,v3,v4]/\s[st.length]?=some (.lst ((ptT.take (i+1)).map sumD))/\∀j,j < st.length->s[j]?=st[j]?) ⟨_,_,_,rfl,by simp;rfl,fun j hj=>by rw[xbf hj]⟩ ?_ ?_
 ·rintro i x σ s hx ⟨v2,v3,v4,rfl,hs,low⟩;obtain⟨hi,rfl⟩:=zhg hx;refine⟨[some (.int k),some (.ref st.length),some (.int ((i+1:Nat):Int)),v3,v4],by rw[show(1:Int)+i=((i+1:Nat):Int) by lia];rfl,?_⟩;unfold zdq;simp only[W,V];refine⟨small _ (by simp),_,_,rfl,rngN (by lia) (by lia),rngN (by lia) (by lia),?_⟩;rw[show(((i+1:Nat):Int)+1 - 1).toNat=i+1 by lia];have hA:=zh hs;have t:Two st st.length s.length ((ptT.take (i+1)).map sumD) [] (s++[.lst []]):=⟨by rw[xbf hA];exact hs,by simp,by lia,xbg _,by lia,fun j hj=>by rw[xbf (by lia)];exact low j hj⟩
  refine zut (k:=i+1) (by lia) (by lia) t fun s' w4 t'=>?_
  have P:=zbfy (k:=i+1) (by lia) (by lia);simp only[W,V,M];refine⟨_,_,rfl,t'.a,WP.of (zrp t'.b) ?_⟩;refine zpt (ks:=ptR (i+1)) P.ok fun g=>?_
  have t3:(s'++g)[st.length]?=some (.lst ((ptT.take (i+1)).map sumD)):=by
   rw[xbf (zh t'.a)];exact t'.a
  refine⟨_,_,rfl,t3,by rw[xbd,xco];exact smallT _ (by lia),?_⟩;simp only[L];refine⟨_,_,_,rfl,?_,fun j hj=>?_⟩
  ·rw[zcx (zh t3),zus (k:=i+1) (by lia),P.eq]
  ·have:=zh t'.b;have:=t'.bB;rw[xbi (by lia),xbf (by lia)];exact t'.low j hj
 ·rintro σ s ⟨v2,v3,v4,rfl,hs,low⟩;rw[zcc] at hs;simp only[W,V,M];refine⟨_,_,rfl,hs,?_⟩;have e2:=zgm (s:=s.set st.length .dead) (st:=st) (fun i hi=>by rw[xbi (by lia)];exact low i hi) (by rw[xcm];have:=zh hs;lia);rw[e2];exact q _
theorem zbjs {k:Nat}(h:k<=16){s:Store}:oIx (.lst ((ptT.take (k+1)).map sumD)) (.int k) s=.ok (sumD (ptT.getD k [])) s:=by
 refine zjr rfl (zmu ?_);rw[xck,xid (by lia),zsu h];rfl
theorem chain45 {f:SE}{a b i:Int}{σ:DS}(hf:f σ st=.ok (.int i) st):eChain oLe oLe (eC (.int a)) f (eC (.int b)) σ st=.ok (.bl (decide (a<=i)&&decide (i<=b))) st:=by
 have e0:eC (.int a) σ st=.ok (.int a) st:=rfl;have e1:eC (.int b) σ st=.ok (.int b) st:=rfl;unfold eChain;rw[e0,zy,hf,zy];by_cases h:a<=i
 ·simp[oI,h,e1]
 ·simp[oI,h]
theorem zjm {k:Nat}{ei:Int}(ee:ei=k)(h:k<=16)(q:∀g,Q (sumD (ptT.getD k [])) (st++g)):WP (zcd [.int ei] st) Q:=by
 refine zsa rfl ?_;simp only[W,V];refine WP.of zja ⟨true,rfl,?_⟩;rw[if_neg (by decide)];refine WP.of (chain45 (i:=ei) rfl) ?_;simp only[W,V];rw[xcc (by lia:(0:Int)<=ei),xcc (by lia:ei<=16)];simp only[W,V,Bool.and_self,Bool.not_true];refine zbkk ee h fun g=>?_
 subst ee;exact WP.of (zbjs h) (q g)
end
theorem zxp {S v4:Option D}{k:Nat}{ei:Int}(ee:ei=k)(h:k<=16){st:Store}{v1:Option D}{QQ:Fl->Store->Prop}(q:∀v4 s,QQ (.nx [S,v1,some (.int ei),some (sumD (ptT.getD k [])),v4]) s) :
  WP (forF (gN 4) zna (rng 0 2) [S,v1,some (.int ei),some (sumD (ptT.getD k [])),v4] st) QQ:=by
 refine zgs (fun i σ s=>∃v4:Option D,σ=[S,v1,some (.int ei),some (sumD (ptT.getD k [])),v4]) ⟨_,rfl⟩ ?_ ?_
 ·rintro i x σ s hx ⟨v4,rfl⟩;refine⟨_,rfl,?_⟩;unfold zna;simp only[W,V];refine zjm ee h fun g=>?_
  refine WP.of (zhm fun r hr=>by have:=(zbau h).2 r hr;lia) ⟨true,rfl,?_⟩;rw[if_neg (by decide)];simp only[W,V,L];exact⟨_,rfl⟩
 ·rintro σ s ⟨v4,rfl⟩;exact q _ _
theorem zxq {ns:List Int}(hl:ns.length<=63){st:Store}{v1 v2 v3 v4:Option D}{QQ:Fl->Store->Prop}(c:Nat)(hc:c<=20)(k:∀σ s,QQ (.nx σ) s) :
  WP (forF (gN 1) zmz (rng 0 c) [some (.scr (ns.map .int)),v1,v2,v3,v4] st) QQ:=by
 refine zgs (fun i σ s=>∃v1 v2 v3 v4:Option D,σ=[some (.scr (ns.map .int)),v1,v2,v3,v4]) ⟨_,_,_,_,rfl⟩ ?_ fun σ s _=>k σ s
 rintro i x σ s hx ⟨v1,v2,v3,v4,rfl⟩;obtain⟨hi,rfl⟩:=zhg hx;refine⟨_,rfl,?_⟩;unfold zmz;simp only[W,V];rw[xhn];refine zbiz hl (by lia) fun g hb=>?_
 refine zbag hb (by lia) (by lia) fun r s2 r1 r2 d2=>?_
 obtain⟨p,rfl⟩:=xfn r1;have hp:p<=16:=by lia
 try simp only[W,V]
 generalize eP:(p:Int)=P;refine zto eP.symm hp fun g2=>?_
 refine WP.of (show oIx _ (.int P) _=_ from by rw[← eP];exact zbjs hp) ?_
 try simp only[W,V]
 refine⟨_,rfl,rngN (by lia) (by lia),?_⟩;refine zxp eP.symm hp fun v4 s=>?_
 simp only[L];exact⟨_,_,_,_,rfl⟩
theorem ztr (ns:List Int)(hl:ns.length<=63)(st:Store):∃st',zbjl [.scr (ns.map .int)] st=.ok (.bl true) st':=by
 have:WP (zbjl [.scr (ns.map .int)] st) (fun v _=>v=.bl true):=by
  refine zsa rfl ?_;simp only[W,V];have hle:((ns.map D.int).length:Int)<=63:=by rw[xbd];lia
  have hge:(0:Int)<=((ns.map D.int).length:Int):=by lia
  generalize ((ns.map D.int).length:Int)=len at hle hge;refine⟨_,rfl,rngN (by split<;>lia) (by split<;>lia),?_⟩;refine zxq hl _ (by split<;>lia) fun σ s=>?_
  simp only[W,V]
 obtain⟨a,st',e,rfl⟩:=this.get;exact⟨st',e⟩
end Dd
namespace K45
theorem holds:∀ns:List Int,ns.length<=63->∃st',Dd.zbjl [.scr (ns.map .int)] []=.ok (.bl true) st':=fun ns hl=>Dd.ztr ns hl _
end K45
namespace K45
open PySem L2 Dd
noncomputable def top (i:Nat):Stmt:=PySem.Challenge.pw_raisedsums_k45_parts_turned.main.body.getD i (.Pass ⟨0,0,0,0⟩)
noncomputable abbrev zft:Stmt:=top 31
noncomputable abbrev zhf:Stmt:=top 30
noncomputable abbrev zhe:Stmt:=top 32
noncomputable abbrev zfu:Stmt:=top 33
noncomputable abbrev zdi:Stmt:=top 34
noncomputable abbrev zbp:Stmt:=top 35
noncomputable abbrev zcw:Stmt:=top 36
noncomputable abbrev zfs:Stmt:=top 18
noncomputable abbrev zwe:Stmt:=top 7
noncomputable abbrev zhb:Stmt:=top 9
noncomputable abbrev zde:Stmt:=top 13
noncomputable abbrev zdf:Stmt:=top 14
noncomputable abbrev zhc:Stmt:=top 6
noncomputable abbrev zfr:Stmt:=top 15
noncomputable abbrev zdh:Stmt:=top 12
noncomputable abbrev zhd:Stmt:=top 16
noncomputable abbrev zdw:Stmt:=top 17
noncomputable abbrev zls:Stmt:=top 24
noncomputable abbrev zlu:Stmt:=top 21
noncomputable abbrev zeu:Stmt:=top 22
noncomputable abbrev zlt:Stmt:=top 20
noncomputable abbrev zbfq:Stmt:=top 23
noncomputable abbrev zjl:Stmt:=top 25
noncomputable abbrev zdg:Stmt:=top 27
noncomputable abbrev zdv:Stmt:=top 28
noncomputable abbrev zzp:Stmt:=top 37
section
variable {P:Program}{w:World}{K:Fg}{mg:Str->Option Value}{base h:Heap}
theorem zgz:FnScope ["_law_bag_here", "_law_many", "_law_digit", "_law_number", "_law_room"] ["_law_bag_here", "_law_many"] (defScope zft):=⟨rfl, rfl, rfl, by decide +kernel, rfl, by decide +kernel, by decide +kernel⟩
theorem zmc (T:TopF K "_law_take" zft)(XX:K.In h)(G:h.Ns mainGlobals mg)  : CalD P w K mg base "_law_take" 1 ["_law_bag_here", "_law_many"] zdd :=
 have nd:=zgz.nd
 zu (k:=0) T XX G zgz (fun _ _ _ _ _ _ us hl=>len2 us hl fun _ _=>rfl) fun f cdv A outer s H E hr=>(ze (zew (zeo zbgu (zia fun _ _ _ _=>.bl _) (zib (zb (pv 0)) zj (fun _ _=>rfl)) zj (nomark _)) (ze (zw (i:=2) nd rfl (Or.inl rfl) (zbm zot (oI_D fun _ _ _ _=>.int _) (zib (zb (pv 0)) zj (fun _ _=>rfl)) (zb (pv 1))))
 (ze (zof (zbm zjo (oI_D fun _ _ _ _=>.int _) (zib (zb (pv 0)) zj (fun _ _=>rfl)) (zb (pv 1))) (zb (pv 0)) zj)
 (zf (zbc (zb (pv 2)))))) zdb)
 (ze (zw (i:=3) nd rfl (Or.inl rfl) zj)
 (ze (zw (i:=4) nd rfl (Or.inl rfl) zj)
 (ze (zkg xcq (zeo (zou hr.units0) zpb (zb (pv 4)) (zb (pv 1)) (nomark _)) (ze (zof (zbm zot (oI_D fun _ _ _ _=>.int _) (zbm zbb zbv (zbm zgj (oI_D fun _ _ _ _=>.int _) (zib (zb (pv 0)) zj (fun _ _=>rfl)) zj) zj) zj) (zb (pv 0)) zj)
 (ze (zw (i:=3) nd rfl (Or.inl rfl) (zbm zbb zbv (zbm zgj (oI_D fun _ _ _ _=>.int _) (zb (pv 3)) zj) (zbm zot (oI_D fun _ _ _ _=>.int _) (zbm zgj (oI_D fun _ _ _ _=>.int _) (zbm zjo (oI_D fun _ _ _ _=>.int _) (zib (zb (pv 0)) zj (fun _ _=>rfl)) zj) zj) zj)))
 (zf (zw (i:=4) nd rfl (Or.inl rfl) (zbm zgj (oI_D fun _ _ _ _=>.int _) (zb (pv 4)) zj))))))
 (zf (zbc (zbm zot (oI_D fun _ _ _ _=>.int _) (zb (pv 3)) (zb (pv 1)))))))))
theorem zit:FnScope ["_law_script", "_law_at", "_law_cell", "_law_mix", "_law_k"] ["_law_script", "_law_at"] (defScope zhf):=⟨rfl, rfl, rfl, by decide +kernel, rfl, by decide +kernel, by decide +kernel⟩
theorem zoz (T:TopF K "_law_bag" zhf)(XX:K.In h)(G:h.Ns mainGlobals mg)(Ab:mg "len"=none)(z_abs:mg "abs"=none)(z_min:mg "min"=none)(Aa:mg "range"=none):CalD P w K mg base "_law_bag" 1 ["_law_script", "_law_at"] zeg :=
 have nd:=zit.nd
 zu (k:=0) T XX G zit (fun _ _ _ _ _ _ us hl=>len2 us hl fun _ _=>rfl) fun f cdv A outer s H E hr=>(ze (zw (i:=2) nd rfl (Or.inl rfl) zj)
 (ze (zew (zeo (zou hr.units0) zpb (zb (pv 1)) (zp zbo zmt rfl Ab zmo (za (zb (pv 0)) zd)) (nomark _)) (zf (zw (i:=2) nd rfl (Or.inl rfl) (zp zzi zbji rfl z_abs zbix (za (zib (zb (pv 0)) (zb (pv 1)) (fun _ _=>rfl)) zd)))) zdb)
 (ze (zw (i:=3) nd rfl (Or.inl rfl) (zbm zbb zbv (zbm zgj (oI_D fun _ _ _ _=>.int _) zj (zb (pv 1))) zj))
 (ze (zbw xcq rfl (zcs rfl Aa (za (zp (zkn rfl) zbjj rfl z_min zzj (za (zp zbo zmt rfl Ab zmo (za (zb (pv 0)) zd)) (za zj zd))) zd)) (zm (i:=4) nd rfl (Or.inl rfl))
 (zf (zw (i:=3) nd rfl (Or.inl rfl) (zbm zot (oI_D fun _ _ _ _=>.int _) (zbm zbb zbv (zbm zbb zbv (zbm zgj (oI_D fun _ _ _ _=>.int _) (zb (pv 3)) zj) (zbm zot (oI_D fun _ _ _ _=>.int _) (zib (zb (pv 0)) (zb (pv 4)) (fun _ _=>rfl)) zj)) (zb (pv 4))) zj))))
 (ze (zew (zeo (zou hr.units0) zpb (zb (pv 2)) (zbm zbgq (oI_D fun _ _ _ _=>.int _) zj zj) (nomark _)) (zf (zw (i:=2) nd rfl (Or.inl rfl) zj)) zdb)
 (zf (zbc (zep (za (zb (pv 2)) (za (zb (pv 3)) zd))))))))))
theorem zis:FnScope ["_law_things", "_law_odd_here", "_law_thing"] ["_law_things"] (defScope zhe):=⟨rfl, rfl, rfl, by decide +kernel, rfl, by decide +kernel, by decide +kernel⟩
theorem zoy (T:TopF K "_law_odd" zhe)(XX:K.In h)(G:h.Ns mainGlobals mg)(Ae:mg "sorted"=none)(Ac:mg "tuple"=none):CalD P w K mg base "_law_odd" 1 ["_law_things"] zcu :=
 have nd:=zis.nd
 zu (k:=0) T XX G zis (fun _ _ _ _ _ _ us hl=>len1 us hl fun _=>rfl) fun f cdv A outer s H E hr=>(ze (zw (i:=1) nd rfl (Or.inr rfl) zrf)
 (ze (zbw xcq rfl (zcr (zb (pv 0))) (zm (i:=2) nd rfl (Or.inl rfl))
 (zf (zmk (zvl hr) (zb (pv 1)) (zb (pv 2)) (zys (zyw (zvl hr) (zb (pv 1)) (zb (pv 2)) zug ⟨rfl,rfl,rfl,rfl⟩)) rfl)))
 (zf (zbc (zkl zdz zmq rfl Ac zgc (za (zp (zdm rfl hr.units) zgr rfl Ae zgq (za (zfm rfl (zyn (zb (pv 1))) (fun _ _ _ _ _=>(zm (i:=0) (show(["_law_thing", "_law_odd_here"]:List Str).Nodup from by decide +kernel) rfl (Or.inl rfl))) (fun _ _ _ _ _=>(zml (zdp (zbec (zvl hr) (zb (pv 1)) (zb (pv 0)) (fun _ _=>rfl))))) (fun _ _ _ _ _=>(zb (pv 0))) (N:=["_law_thing", "_law_odd_here"]) (k:=1) (is:=[1]) (zeq (by rfl))) zd)) zd))))))
theorem zha:FnScope ["_law_a", "_law_b", "_law_found", "_law_c"] ["_law_a", "_law_b"] (defScope zfu):=⟨rfl, rfl, rfl, by decide +kernel, rfl, by decide +kernel, by decide +kernel⟩
theorem zmd (T:TopF K "_law_pair" zfu)(XX:K.In h)(G:h.Ns mainGlobals mg)(Aa:mg "range"=none)(z_min:mg "min"=none):CalD P w K mg base "_law_pair" 1 ["_law_a", "_law_b"] zcm :=
 have nd:=zha.nd
 zu (k:=0) T XX G zha (fun _ _ _ _ _ _ us hl=>len2 us hl fun _ _=>rfl) fun f cdv A outer s H E hr=>(ze (zw (i:=2) nd rfl (Or.inl rfl) (zep zd))
 (ze (zbw xcq rfl (zcs rfl Aa (za (zbm zbb zbv (zbm zjo (oI_D fun _ _ _ _=>.int _) (zb (pv 0)) zj) zj) zd)) (zm (i:=3) nd rfl (Or.inl rfl))
 (zf (zew (zeo (zxc hr.units) zbfa (zbm zbby (zia fun _ _ _ _=>.int _) (zbm zfd (zia fun _ _ _ _=>.int _) (zbm zfd (zia fun _ _ _ _=>.int _) (zb (pv 1)) (zb (pv 3))) zj) (zbm zfd (zia fun _ _ _ _=>.int _) (zb (pv 0)) (zbm zgj (oI_D fun _ _ _ _=>.int _) zj (zb (pv 3))))) (zbm zfd (zia fun _ _ _ _=>.int _) (zb (pv 0)) (zbm zgj (oI_D fun _ _ _ _=>.int _) zj (zb (pv 3)))) (nomark _)) (zf (zbl (zee (zb (pv 2)) (za (zbdz (zij (za (zbm zfd (zia fun _ _ _ _=>.int _) (zbm zbb zbv (zb (pv 0)) (zb (pv 1))) (zb (pv 3))) (za (zb (pv 3)) zd))) zhu (zht (zbm zbb zbv zj (zp (zkn rfl) zbjj rfl z_min zzj (za (zb (pv 3)) (za zj zd)))))) zd)))) zdb)))
 (zf (zbc (zyt (zb (pv 2)))))))
theorem zem:FnScope ["_law_rows", "_law_waiting", "_law_steep", "_law_further", "_law_row", "_law_opened", "_law_at"] ["_law_rows"] (defScope zdi):=⟨rfl, rfl, rfl, by decide +kernel, rfl, by decide +kernel, by decide +kernel⟩
theorem zih (T:TopF K "_law_settled" zdi)(XX:K.In h)(G:h.Ns mainGlobals mg)(Ab:mg "len"=none)(Aa:mg "range"=none)(Ah:CalD P w K mg base "_law_odd" 1 ["_law_things"] zcu)(c__law_pair:CalD P w K mg base "_law_pair" 1 ["_law_a", "_law_b"] zcm):CalD P w K mg base "_law_settled" 2 ["_law_rows"] zce :=
  have nd:=zem.nd
  zu (k:=1) T XX G zem (fun _ _ _ _ _ _ us hl=>len1 us hl fun _=>rfl) fun f cdv A outer s H E hr=>(ze (zw (i:=1) nd rfl (Or.inl rfl) (zt Ah (fun _ _ _ _ h=>zr h) (hr.mono (by decide)) rfl (za (zb (pv 0)) zd)))
  (ze (zw (i:=2) nd rfl (Or.inl rfl) (zep zd))
  (ze (zkg xcq (zeo zbgu (zia fun _ _ _ _=>.bl _) (zp zbo zmt rfl Ab zmo (za (zb (pv 1)) zd)) zj (nomark _)) (ze (zw (i:=3) nd rfl (Or.inl rfl) (zep zd))
  (ze (zbw xcq rfl (zcr (zb (pv 1))) (zm (i:=4) nd rfl (Or.inr rfl))
  (ze (zyg (i:=5) rfl nd rfl (Or.inl rfl) (zcs rfl Aa (za (zbm zfd (zia fun _ _ _ _=>.int _) (zp zbo zmt rfl Ab zmo (za (zb (pv 4)) zd)) zj) zd)) (fun _ _ _ _ _=>(zm (i:=0) (show(["_law_k", "_law_row"]:List Str).Nodup from by decide +kernel) rfl (Or.inl rfl))) (fun _ _ _ _ _=>(zml (zeo (zou hr.units0) zpb (zib (zb (pv 1)) (zb (pv 0)) (fun _ _=>rfl)) (zbm zgj (oI_D fun _ _ _ _=>.int _) zj (zib (zb (pv 1)) (zbm zbb zbv (zb (pv 0)) zj) (fun _ _=>rfl))) (nomark _)))) (fun _ _ _ _ _=>(zb (pv 0))) (N:=["_law_k", "_law_row"]) (k:=1) (is:=[4]) (zeq (by rfl)))
  (zf (zew (zeo (zxc hr.units) zbfa (zb (pv 5)) (zbij zd) (nomark _)) (zf (zbl (zee (zb (pv 2)) (za (zb (pv 4)) zd)))) (ze (zw (i:=6) nd rfl (Or.inr rfl) (zib (zb (pv 5)) (zbih zj) (fun _ _=>rfl)))
  (zf (zbl (zkk (zb (pv 3)) (za (zfm rfl (zcr (zt c__law_pair (fun _ _ _ _ h=>zr h) (hr.mono (by decide)) rfl (za (zib (zb (pv 4)) (zb (pv 6)) (fun _ _=>rfl)) (za (zib (zb (pv 4)) (zbm zbb zbv (zb (pv 6)) zj) (fun _ _=>rfl)) zd)))) (fun _ _ _ _ _=>(zm (i:=0) (show(["_law_two", "_law_row", "_law_at"]:List Str).Nodup from by decide +kernel) rfl (Or.inl rfl))) (fun _ _ _ _ _=>zex) (fun _ _ _ _ _=>(zbm zbb zbv (zbm zbb zbv (zbdz (zb (pv 1)) zhu (zht (zb (pv 2)))) (zb (pv 0))) (zbdz (zb (pv 1)) (zht (zbm zbb zbv (zb (pv 2)) zj)) zhu))) (N:=["_law_two", "_law_row", "_law_at"]) (k:=1) (is:=[4, 6]) (zeq (by rfl))) zd)))))))))
  (zf (zw (i:=1) nd rfl (Or.inl rfl) (zt Ah (fun _ _ _ _ h=>zr h) (hr.mono (by decide)) rfl (za (zyt (zb (pv 3))) zd)))))))
  (zf (zbc (zt Ah (fun _ _ _ _ h=>zr h) (hr.mono (by decide)) rfl (za (zyt (zb (pv 2))) zd)))))))
theorem zco:FnScope ["_law_most", "_law_found", "_law_k", "_law_rows", "_law_i"] ["_law_most"] (defScope zbp):=⟨rfl, rfl, rfl, by decide +kernel, rfl, by decide +kernel, by decide +kernel⟩
theorem zev (T:TopF K "_law_parts_turned" zbp)(XX:K.In h)(G:h.Ns mainGlobals mg)(Aa:mg "range"=none)(Ao:CalD P w K mg base "_law_settled" 2 ["_law_rows"] zce):CalD P w K mg base "_law_parts_turned" 3 ["_law_most"] zbe :=
 have nd:=zco.nd
 zu (k:=2) T XX G zco (fun _ _ _ _ _ _ us hl=>len1 us hl fun _=>rfl) fun f cdv A outer s H E hr=>(ze (zw (i:=1) nd rfl (Or.inl rfl) (zep (za (zij (za (zij zd) zd)) zd)))
 (ze (zbw xcq rfl (zfl rfl Aa (za zj (za (zbm zbb zbv (zb (pv 0)) zj) zd))) (zm (i:=2) nd rfl (Or.inl rfl))
 (ze (zw (i:=3) nd rfl (Or.inl rfl) (zep zd))
 (ze (zbw xcq rfl (zfl rfl Aa (za zj (za (zbm zbb zbv (zb (pv 2)) zj) zd))) (zm (i:=4) nd rfl (Or.inr rfl))
 (zf (zbl (zkk (zb (pv 3)) (za (zfm rfl (zcr (zib (zb (pv 1)) (zbm zfd (zia fun _ _ _ _=>.int _) (zb (pv 2)) (zb (pv 4))) (fun _ _=>rfl))) (fun _ _ _ _ _=>(zm (i:=0) (show(["_law_row", "_law_i"]:List Str).Nodup from by decide +kernel) rfl (Or.inl rfl))) (fun _ _ _ _ _=>zex) (fun _ _ _ _ _=>(zbm zbb zbv (zij (za (zb (pv 1)) zd)) (zb (pv 0)))) (N:=["_law_row", "_law_i"]) (k:=1) (is:=[4]) (zeq (by rfl))) zd)))))
 (zf (zbl (zee (zb (pv 1)) (za (zt Ao (fun _ _ _ _ h=>zr h) (hr.mono (by decide)) rfl (za (zyt (zb (pv 3))) zd)) zd)))))))
 (zf (zbc (zyt (zb (pv 1)))))))
theorem zdu:FnScope ["_law_found", "_law_due", "_law_row"] ["_law_found", "_law_due"] (defScope zcw):=⟨rfl, rfl, rfl, by decide +kernel, rfl, by decide +kernel, by decide +kernel⟩
theorem zhj (T:TopF K "_law_are_rows" zcw)(XX:K.In h)(G:h.Ns mainGlobals mg)(Ac:mg "tuple"=none)(Ad:mg "isinstance"=none)(z_bool:mg "bool"=none)(z_int:mg "int"=none)(z_any:mg "any"=none):CalD P w K mg base "_law_are_rows" 1 ["_law_found", "_law_due"] zbt :=
 have nd:=zdu.nd
 zu (k:=0) T XX G zdu (fun _ _ _ _ _ _ us hl=>len2 us hl fun _ _=>rfl) fun f cdv A outer s H E hr=>(ze (zew (JW.pt (ztz (zfk (zdp (zp zby zdn rfl Ad zbh (za (zb (pv 0)) (za (zle (zhi (v:=.ty "tuple") rfl Ac zgc rfl) (fun _ _=>.ty _)) zd))))) (zod (zeo (zbgr hr.units) zbfa (zb (pv 0)) (zb (pv 1)) (nomark _)) (by first | exact Or.inl rfl | exact Or.inr rfl)))) (zf (zbc zug)) zdb)
 (ze (zbw xcq rfl (zcr (zb (pv 0))) (zm (i:=2) nd rfl (Or.inl rfl))
 (zf (zew (JW.pt (ztz (zfk (zdp (zp zby zdn rfl Ad zbh (za (zb (pv 2)) (za (zle (zhi (v:=.ty "tuple") rfl Ac zgc rfl) (fun _ _=>.ty _)) zd))))) (zod (zdp (zp (zzg rfl) zber rfl z_any zbiv (za (zfm rfl (zcr (zb (pv 2))) (fun _ _ _ _ _=>(zm (i:=0) (show(["_law_x"]:List Str).Nodup from by decide +kernel) rfl (Or.inl rfl))) (fun _ _ _ _ _=>zex) (fun _ _ _ _ _=>(zbln (zys (zp zby zdn rfl Ad zbh (za (zb (pv 0)) (za (zle (zhi (v:=.ty "int") rfl z_int zbel rfl) (fun _ _=>.ty _)) zd)))) (zyr (zp zby zdn rfl Ad zbh (za (zb (pv 0)) (za (zle (zhi (v:=.ty "bool") rfl z_bool zvv rfl) (fun _ _=>.ty _)) zd)))))) (N:=["_law_x"]) (k:=1) (is:=[]) (zeq (by rfl))) zd))) (by first | exact Or.inl rfl | exact Or.inr rfl)))) (zf (zbc zug)) zdb)))
 (zf (zbc zug))))
theorem zgy:FnScope ["rows", "kept", "row"] ["rows"] (defScope zfs):=⟨rfl, rfl, rfl, by decide +kernel, rfl, by decide +kernel, by decide +kernel⟩
theorem zmb (T:TopF K "rows_kept" zfs)(XX:K.In h)(G:h.Ns mainGlobals mg)  : CalD P w K mg base "rows_kept" 1 ["rows"] zdc :=
 have nd:=zgy.nd
 zu (k:=0) T XX G zgy (fun _ _ _ _ _ _ us hl=>len1 us hl fun _=>rfl) fun f cdv A outer s H E hr=>(ze (zw (i:=1) nd rfl (Or.inl rfl) zrf)
 (ze (zbw xcq rfl (zcr (zb (pv 0))) (zm (i:=2) nd rfl (Or.inl rfl))
 (zf (zmk (zvl hr) (zb (pv 1)) (zb (pv 2)) zug rfl)))
 (zf (zbc (zb (pv 1))))))
theorem zun:FnScope ["kept", "thing"] ["kept", "thing"] (defScope zwe):=⟨rfl, rfl, rfl, by decide +kernel, rfl, by decide +kernel, by decide +kernel⟩
theorem zbbz (T:TopF K "flip" zwe)(XX:K.In h)(G:h.Ns mainGlobals mg)  : CalD P w K mg base "flip" 1 ["kept", "thing"] zik :=
 have nd:=zun.nd
 zu (k:=0) T XX G zun (fun _ _ _ _ _ _ us hl=>len2 us hl fun _ _=>rfl) fun f cdv A outer s H E hr=>(zf (zew (zbhv (zbbt (zvl hr) (zb (pv 1)) (zb (pv 0)))) (zf (zbl (zbeb (zvl hr) (zb (pv 0)) (zb (pv 1)) ⟨rfl,rfl,rfl,rfl⟩))) (zf (zmk (zvl hr) (zb (pv 0)) (zb (pv 1)) zug rfl))))
theorem zio:FnScope ["e", "k"] ["e", "k"] (defScope zhb):=⟨rfl, rfl, rfl, by decide +kernel, rfl, by decide +kernel, by decide +kernel⟩
theorem zov (T:TopF K "odd_ways" zhb)(XX:K.In h)(G:h.Ns mainGlobals mg)  : CalD P w K mg base "odd_ways" 1 ["e", "k"] zea :=
 have nd:=zio.nd
 zu (k:=0) T XX G zio (fun _ _ _ _ _ _ us hl=>len2 us hl fun _ _=>rfl) fun f cdv A outer s H E hr=>(zf (zbc (zbee (zxc hr.units) zbfa (zbm zbby (zia fun _ _ _ _=>.int _) (zb (pv 0)) (zb (pv 1))) (zb (pv 1)) (nomark _))))
theorem zei:FnScope ["a", "b", "told", "c"] ["a", "b"] (defScope zde):=⟨rfl, rfl, rfl, by decide +kernel, rfl, by decide +kernel, by decide +kernel⟩
theorem zid (T:TopF K "rows_for_two" zde)(XX:K.In h)(G:h.Ns mainGlobals mg)(Aa:mg "range"=none)(Ae:mg "sorted"=none)(c_odd_ways:CalD P w K mg base "odd_ways" 1 ["e", "k"] zea):CalD P w K mg base "rows_for_two" 2 ["a", "b"] zbk :=
 have nd:=zei.nd
 zu (k:=1) T XX G zei (fun _ _ _ _ _ _ us hl=>len2 us hl fun _ _=>rfl) fun f cdv A outer s H E hr=>(ze (zw (i:=2) nd rfl (Or.inl rfl) (zep zd))
 (ze (zbw xcq rfl (zcs rfl Aa (za (zbm zbb zbv (zbm zjo (oI_D fun _ _ _ _=>.int _) (zb (pv 0)) zj) zj) zd)) (zm (i:=3) nd rfl (Or.inl rfl))
 (zf (zew (zdp (zt c_odd_ways (fun _ _ _ _ h=>zr h) (hr.mono (by decide)) rfl (za (zbm zfd (zia fun _ _ _ _=>.int _) (zbm zfd (zia fun _ _ _ _=>.int _) (zb (pv 1)) (zb (pv 3))) zj) (za (zbm zfd (zia fun _ _ _ _=>.int _) (zb (pv 0)) (zbm zgj (oI_D fun _ _ _ _=>.int _) zj (zb (pv 3)))) zd)))) (zf (zbl (zee (zb (pv 2)) (za (zblu (zeo zbgu (zia fun _ _ _ _=>.bl _) (zb (pv 3)) zj (nomark _)) (zij (za (zbm zfd (zia fun _ _ _ _=>.int _) (zbm zbb zbv (zb (pv 0)) (zb (pv 1))) (zb (pv 3))) (za (zb (pv 3)) zd))) (zij (za (zbm zbb zbv (zb (pv 0)) (zb (pv 1))) zd))) zd)))) zdb)))
 (zf (zbc (zp (zdm rfl hr.units) zgr rfl Ae zgq (za (zb (pv 2)) zd))))))
theorem zej:FnScope ["row", "place", "ahead", "rest"] ["row", "place"] (defScope zdf):=⟨rfl, rfl, rfl, by decide +kernel, rfl, by decide +kernel, by decide +kernel⟩
theorem zie (T:TopF K "rows_for_row" zdf)(XX:K.In h)(G:h.Ns mainGlobals mg)(Ap:CalD P w K mg base "rows_for_two" 2 ["a", "b"] zbk):CalD P w K mg base "rows_for_row" 3 ["row", "place"] zba :=
 have nd:=zej.nd
 zu (k:=2) T XX G zej (fun _ _ _ _ _ _ us hl=>len2 us hl fun _ _=>rfl) fun f cdv A outer s H E hr=>(ze (zw (i:=2) nd rfl (Or.inr rfl) (zbdz (zb (pv 0)) zhu (zht (zb (pv 1)))))
 (ze (zw (i:=3) nd rfl (Or.inr rfl) (zbdz (zb (pv 0)) (zht (zbm zbb zbv (zb (pv 1)) zj)) zhu))
 (zf (zbc (zfm rfl (zcr (zt Ap (fun _ _ _ _ h=>zr h) (hr.mono (by decide)) rfl (za (zib (zb (pv 0)) (zb (pv 1)) (fun _ _=>rfl)) (za (zib (zb (pv 0)) (zbm zbb zbv (zb (pv 1)) zj) (fun _ _=>rfl)) zd)))) (fun _ _ _ _ _=>(zm (i:=0) (show(["two", "rest", "ahead"]:List Str).Nodup from by decide +kernel) rfl (Or.inl rfl))) (fun _ _ _ _ _=>zex) (fun _ _ _ _ _=>(zbm zbb zbv (zbm zbb zbv (zb (pv 2)) (zb (pv 0))) (zb (pv 1)))) (N:=["two", "rest", "ahead"]) (k:=1) (is:=[3, 2]) (zeq (by rfl)))))))
theorem ziq:FnScope ["thing"] ["thing"] (defScope zhc):=⟨rfl, rfl, rfl, by decide +kernel, rfl, by decide +kernel, by decide +kernel⟩
theorem zow (T:TopF K "is_whole" zhc)(XX:K.In h)(G:h.Ns mainGlobals mg)(z_bool:mg "bool"=none)(Ad:mg "isinstance"=none)(z_int:mg "int"=none):CalD P w K mg base "is_whole" 1 ["thing"] zbf :=
 have nd:=ziq.nd
 zu (k:=0) T XX G ziq (fun _ _ _ _ _ _ us hl=>len1 us hl fun _=>rfl) fun f cdv A outer s H E hr=>(zf (zbc (zyz (zp zby zdn rfl Ad zbh (za (zb (pv 0)) (za (zle (zhi (v:=.ty "int") rfl z_int zbel rfl) (fun _ _=>.ty _)) zd))) (zyr (zys (zp zby zdn rfl Ad zbh (za (zb (pv 0)) (za (zle (zhi (v:=.ty "bool") rfl z_bool zvv rfl) (fun _ _=>.ty _)) zd))))))))
theorem zgx:FnScope ["kept", "row"] ["kept", "row"] (defScope zfr):=⟨rfl, rfl, rfl, by decide +kernel, rfl, by decide +kernel, by decide +kernel⟩
theorem zma (T:TopF K "stands_in" zfr)(XX:K.In h)(G:h.Ns mainGlobals mg)(z_all:mg "all"=none)(Ac:mg "tuple"=none)(Ad:mg "isinstance"=none)(Af:CalD P w K mg base "is_whole" 1 ["thing"] zbf):CalD P w K mg base "stands_in" 2 ["kept", "row"] zcl :=
 have nd:=zgx.nd
 zu (k:=1) T XX G zgx (fun _ _ _ _ _ _ us hl=>len2 us hl fun _ _=>rfl) fun f cdv A outer s H E hr=>(zf (zbc (zyz (zp zby zdn rfl Ad zbh (za (zb (pv 1)) (za (zle (zhi (v:=.ty "tuple") rfl Ac zgc rfl) (fun _ _=>.ty _)) zd))) (zyz (zp (zzh rfl) zber rfl z_all zbiw (za (zfm rfl (zcr (zb (pv 1))) (fun _ _ _ _ _=>(zm (i:=0) (show(["part"]:List Str).Nodup from by decide +kernel) rfl (Or.inl rfl))) (fun _ _ _ _ _=>zex) (fun _ _ _ _ _=>(zt Af (fun _ _ _ _ h=>zr h) (hr.mono (by decide)) rfl (za (zb (pv 0)) zd))) (N:=["part"]) (k:=1) (is:=[]) (zeq (by rfl))) zd)) (zyr (zblt (zbbt (zvl hr) (zb (pv 1)) (zb (pv 0)))))))))
theorem zel:FnScope ["a", "b"] ["a", "b"] (defScope zdh):=⟨rfl, rfl, rfl, by decide +kernel, rfl, by decide +kernel, by decide +kernel⟩
theorem zig (T:TopF K "falls_slowly" zdh)(XX:K.In h)(G:h.Ns mainGlobals mg)  : CalD P w K mg base "falls_slowly" 1 ["a", "b"] zbu :=
 have nd:=zel.nd
 zu (k:=0) T XX G zel (fun _ _ _ _ _ _ us hl=>len2 us hl fun _ _=>rfl) fun f cdv A outer s H E hr=>(zf (zbc (zbee (zou hr.units0) zpb (zb (pv 0)) (zbm zgj (oI_D fun _ _ _ _=>.int _) zj (zb (pv 1))) (nomark _))))
theorem zir:FnScope ["row", "place"] ["row", "place"] (defScope zhd):=⟨rfl, rfl, rfl, by decide +kernel, rfl, by decide +kernel, by decide +kernel⟩
theorem zox (T:TopF K "is_place" zhd)(XX:K.In h)(G:h.Ns mainGlobals mg)(Ab:mg "len"=none)(Af:CalD P w K mg base "is_whole" 1 ["thing"] zbf)(Aq:CalD P w K mg base "falls_slowly" 1 ["a", "b"] zbu):CalD P w K mg base "is_place" 2 ["row", "place"] zbn :=
 have nd:=zir.nd
 zu (k:=1) T XX G zir (fun _ _ _ _ _ _ us hl=>len2 us hl fun _ _=>rfl) fun f cdv A outer s H E hr=>(ze (zew (JW.pt (ztz (zfk (zdp (zt Af (fun _ _ _ _ h=>zr h) (hr.mono (by decide)) rfl (za (zb (pv 1)) zd)))) (zod (zfk (zoe zbgt (zou hr.units0) (zia fun _ _ _ _=>.bl _) zpb zj (zb (pv 1)) (zbm zfd (zia fun _ _ _ _=>.int _) (zp zbo zmt rfl Ab zmo (za (zb (pv 0)) zd)) zj))) (by first | exact Or.inl rfl | exact Or.inr rfl)))) (zf (zbc zug)) zdb)
 (zf (zbc (zt Aq (fun _ _ _ _ h=>zr h) (hr.mono (by decide)) rfl (za (zib (zb (pv 0)) (zb (pv 1)) (fun _ _=>rfl)) (za (zib (zb (pv 0)) (zbm zbb zbv (zb (pv 1)) zj) (fun _ _=>rfl)) zd))))))
theorem zfb:FnScope ["kept", "row", "place", "made"] ["kept", "row", "place"] (defScope zdw):=⟨rfl, rfl, rfl, by decide +kernel, rfl, by decide +kernel, by decide +kernel⟩
theorem zjq (T:TopF K "exchange_in" zdw)(XX:K.In h)(G:h.Ns mainGlobals mg)(c_stands_in:CalD P w K mg base "stands_in" 2 ["kept", "row"] zcl)(Ai:CalD P w K mg base "is_place" 2 ["row", "place"] zbn)(Ag:CalD P w K mg base "flip" 1 ["kept", "thing"] zik)(Aj:CalD P w K mg base "rows_for_row" 3 ["row", "place"] zba):CalD P w K mg base "exchange_in" 4 ["kept", "row", "place"] zcf :=
 have nd:=zfb.nd
 zu (k:=3) T XX G zfb (fun _ _ _ _ _ _ us hl=>len3 us hl fun _ _ _=>rfl) fun f cdv A outer s H E hr=>(ze (zew (zfk (zdp (zt c_stands_in (fun _ _ _ _ h=>zr h) (hr.mono (by decide)) rfl (za (zb (pv 0)) (za (zb (pv 1)) zd))))) (zf zkh) zdb)
 (ze (zew (zfk (zdp (zt Ai (fun _ _ _ _ h=>zr h) (hr.mono (by decide)) rfl (za (zb (pv 1)) (za (zb (pv 2)) zd))))) (zf zkh) zdb)
 (ze (zbl (zt Ag (fun _ _ _ _ h=>zr h) (hr.mono (by decide)) rfl (za (zb (pv 0)) (za (zb (pv 1)) zd))))
 (zf (zbw xcq rfl (zcr (zt Aj (fun _ _ _ _ h=>zr h) (hr.mono (by decide)) rfl (za (zb (pv 1)) (za (zb (pv 2)) zd)))) (zm (i:=3) nd rfl (Or.inl rfl))
 (zf (zbl (zt Ag (fun _ _ _ _ h=>zr h) (hr.mono (by decide)) rfl (za (zb (pv 0)) (za (zb (pv 3)) zd))))))))))
theorem zng:FnScope ["rows", "steps", "kept", "row", "place"] ["rows", "steps"] (defScope zls):=⟨rfl, rfl, rfl, by decide +kernel, rfl, by decide +kernel, by decide +kernel⟩
theorem ztc (T:TopF K "walked" zls)(XX:K.In h)(G:h.Ns mainGlobals mg)(Ae:mg "sorted"=none)(Ac:mg "tuple"=none)(c_rows_kept:CalD P w K mg base "rows_kept" 1 ["rows"] zdc)(Ar:CalD P w K mg base "exchange_in" 4 ["kept", "row", "place"] zcf):CalD P w K mg base "walked" 5 ["rows", "steps"] zfn :=
 have nd:=zng.nd
 zu (k:=4) T XX G zng (fun _ _ _ _ _ _ us hl=>len2 us hl fun _ _=>rfl) fun f cdv A outer s H E hr=>(ze (zw (i:=2) nd rfl (Or.inl rfl) (zt c_rows_kept (fun _ _ _ _ h=>zr h) (hr.mono (by decide)) rfl (za (zb (pv 0)) zd)))
 (ze (zbw xcq rfl (zcr (zb (pv 1))) (zvr rfl (zgp (zm (i:=3) nd rfl (Or.inl rfl)) (zgp (zm (i:=4) nd rfl (Or.inl rfl)) zrc)))
 (zf (zbl (zt Ar (fun _ _ _ _ h=>zr h) (hr.mono (by decide)) rfl (za (zb (pv 2)) (za (zb (pv 3)) (za (zb (pv 4)) zd)))))))
 (zf (zbc (zkl zdz zmq rfl Ac zgc (za (zp (zdm rfl hr.units) zgr rfl Ae zgq (za (zb (pv 2)) zd)) zd))))))
theorem zni:FnScope ["row"] ["row"] (defScope zlu):=⟨rfl, rfl, rfl, by decide +kernel, rfl, by decide +kernel, by decide +kernel⟩
theorem zte (T:TopF K "moment" zlu)(XX:K.In h)(G:h.Ns mainGlobals mg)(z_enumerate:mg "enumerate"=none)(z_sum:mg "sum"=none):CalD P w K mg base "moment" 1 ["row"] zey :=
 have nd:=zni.nd
 zu (k:=0) T XX G zni (fun _ _ _ _ _ _ us hl=>len1 us hl fun _=>rfl) fun f cdv A outer s H E hr=>(zf (zbc (zp (zuk rfl) zbjc rfl z_sum zbit (za (zfm rfl (zuc rfl z_enumerate (zb (pv 0))) (fun _ _ _ _ _=>(zvr rfl (zgp (zm (i:=0) (show(["number", "part"]:List Str).Nodup from by decide +kernel) rfl (Or.inl rfl)) (zgp (zm (i:=1) (show(["number", "part"]:List Str).Nodup from by decide +kernel) rfl (Or.inl rfl)) zrc)))) (fun _ _ _ _ _=>zex) (fun _ _ _ _ _=>(zbm zgj (oI_D fun _ _ _ _=>.int _) (zb (pv 0)) (zb (pv 1)))) (N:=["number", "part"]) (k:=2) (is:=[]) (zeq (by rfl))) zd))))
theorem zge:FnScope ["levels", "row"] ["levels", "row"] (defScope zeu):=⟨rfl, rfl, rfl, by decide +kernel, rfl, by decide +kernel, by decide +kernel⟩
theorem zkx (T:TopF K "flip_level" zeu)(XX:K.In h)(G:h.Ns mainGlobals mg)(Ag:CalD P w K mg base "flip" 1 ["kept", "thing"] zik)(c_moment:CalD P w K mg base "moment" 1 ["row"] zey):CalD P w K mg base "flip_level" 2 ["levels", "row"] zbz :=
 have nd:=zge.nd
 zu (k:=1) T XX G zge (fun _ _ _ _ _ _ us hl=>len2 us hl fun _ _=>rfl) fun f cdv A outer s H E hr=>(zf (zbl (zt Ag (fun _ _ _ _ h=>zr h) (hr.mono (by decide)) rfl (za (zyq (zb (pv 0)) (za (zt c_moment (fun _ _ _ _ h=>zr h) (hr.mono (by decide)) rfl (za (zb (pv 1)) zd)) (za zrf zd))) (za (zb (pv 1)) zd)))))
theorem znh:FnScope ["row"] ["row"] (defScope zlt):=⟨rfl, rfl, rfl, by decide +kernel, rfl, by decide +kernel, by decide +kernel⟩
theorem ztd (T:TopF K "places" zlt)(XX:K.In h)(G:h.Ns mainGlobals mg)(Ab:mg "len"=none)(Aa:mg "range"=none)(Ai:CalD P w K mg base "is_place" 2 ["row", "place"] zbn):CalD P w K mg base "places" 3 ["row"] zhz :=
 have nd:=znh.nd
 zu (k:=2) T XX G znh (fun _ _ _ _ _ _ us hl=>len1 us hl fun _=>rfl) fun f cdv A outer s H E hr=>(zf (zbc (zfm rfl (zcs rfl Aa (za (zbm zfd (zia fun _ _ _ _=>.int _) (zp zbo zmt rfl Ab zmo (za (zb (pv 0)) zd)) zj) zd)) (fun _ _ _ _ _=>(zm (i:=0) (show(["place", "row"]:List Str).Nodup from by decide +kernel) rfl (Or.inl rfl))) (fun _ _ _ _ _=>(zml (zdp (zt Ai (fun _ _ _ _ h=>zr h) (hr.mono (by decide)) rfl (za (zb (pv 1)) (za (zb (pv 0)) zd)))))) (fun _ _ _ _ _=>(zb (pv 0))) (N:=["place", "row"]) (k:=1) (is:=[0]) (zeq (by rfl)))))
theorem zban:FnScope ["rows", "levels", "row", "steps", "level", "slow", "made"] ["rows"] (defScope zbfq):=⟨rfl, rfl, rfl, by decide +kernel, rfl, by decide +kernel, by decide +kernel⟩
theorem zbgx (T:TopF K "way" zbfq)(XX:K.In h)(G:h.Ns mainGlobals mg)(z_max:mg "max"=none)(Ae:mg "sorted"=none)(Al:CalD P w K mg base "flip_level" 2 ["levels", "row"] zbz)(c_places:CalD P w K mg base "places" 3 ["row"] zhz)(Aj:CalD P w K mg base "rows_for_row" 3 ["row", "place"] zba):CalD P w K mg base "way" 4 ["rows"] zbeu :=
 have nd:=zban.nd
 zu (k:=3) T XX G zban (fun _ _ _ _ _ _ us hl=>len1 us hl fun _=>rfl) fun f cdv A outer s H E hr=>(ze (zw (i:=1) nd rfl (Or.inl rfl) zyv)
 (ze (zbw xcq rfl (zcr (zb (pv 0))) (zm (i:=2) nd rfl (Or.inl rfl))
 (zf (zbl (zt Al (fun _ _ _ _ h=>zr h) (hr.mono (by decide)) rfl (za (zb (pv 1)) (za (zb (pv 2)) zd))))))
 (ze (zw (i:=3) nd rfl (Or.inl rfl) (zep zd))
 (ze (zkg xcq (zyb (zb (pv 1))) (ze (zw (i:=4) nd rfl (Or.inl rfl) (zbea (zb (pv 1)) (za (zp (zrl rfl) zbeq rfl z_max zbiu (za (zb (pv 1)) zd)) zd)))
 (zf (zbw xcq rfl (zcr (zp (zdm rfl hr.units) zgr rfl Ae zgq (za (zb (pv 4)) zd))) (zm (i:=2) nd rfl (Or.inl rfl))
 (ze (zw (i:=5) nd rfl (Or.inl rfl) (zt c_places (fun _ _ _ _ h=>zr h) (hr.mono (by decide)) rfl (za (zb (pv 2)) zd)))
 (zf (zew (zdp (zb (pv 5))) (ze (zbl (zee (zb (pv 3)) (za (zij (za (zb (pv 2)) (za (zib (zb (pv 5)) zj (fun _ _=>rfl)) zd))) zd)))
 (zf (zbw xcq rfl (zcr (zt Aj (fun _ _ _ _ h=>zr h) (hr.mono (by decide)) rfl (za (zb (pv 2)) (za (zib (zb (pv 5)) zj (fun _ _=>rfl)) zd)))) (zm (i:=6) nd rfl (Or.inl rfl))
 (zf (zbl (zt Al (fun _ _ _ _ h=>zr h) (hr.mono (by decide)) rfl (za (zb (pv 1)) (za (zb (pv 6)) zd)))))))) zdb)))))))
 (zf (zbc (zyt (zb (pv 3)))))))))
theorem zkv:FnScope ["rows"] ["rows"] (defScope zjl):=⟨rfl, rfl, rfl, by decide +kernel, rfl, by decide +kernel, by decide +kernel⟩
theorem zqj (T:TopF K "settled" zjl)(XX:K.In h)(G:h.Ns mainGlobals mg)(c_walked:CalD P w K mg base "walked" 5 ["rows", "steps"] zfn)(c_way:CalD P w K mg base "way" 4 ["rows"] zbeu):CalD P w K mg base "settled" 6 ["rows"] zfo :=
 have nd:=zkv.nd
 zu (k:=5) T XX G zkv (fun _ _ _ _ _ _ us hl=>len1 us hl fun _=>rfl) fun f cdv A outer s H E hr=>(zf (zbc (zt c_walked (fun _ _ _ _ h=>zr h) (hr.mono (by decide)) rfl (za (zb (pv 0)) (za (zt c_way (fun _ _ _ _ h=>zr h) (hr.mono (by decide)) rfl (za (zb (pv 0)) zd)) zd)))))
theorem zek:FnScope ["most", "told", "k", "rows", "i"] ["most"] (defScope zdg):=⟨rfl, rfl, rfl, by decide +kernel, rfl, by decide +kernel, by decide +kernel⟩
theorem zif (T:TopF K "parts_turned" zdg)(XX:K.In h)(G:h.Ns mainGlobals mg)(Aa:mg "range"=none)(Ac:mg "tuple"=none)(c_settled:CalD P w K mg base "settled" 6 ["rows"] zfo):CalD P w K mg base "parts_turned" 7 ["most"] zbs :=
 have nd:=zek.nd
 zu (k:=6) T XX G zek (fun _ _ _ _ _ _ us hl=>len1 us hl fun _=>rfl) fun f cdv A outer s H E hr=>(ze (zw (i:=1) nd rfl (Or.inl rfl) (zep (za (zij (za (zij zd) zd)) zd)))
 (ze (zbw xcq rfl (zfl rfl Aa (za zj (za (zbm zbb zbv (zb (pv 0)) zj) zd))) (zm (i:=2) nd rfl (Or.inl rfl))
 (ze (zw (i:=3) nd rfl (Or.inl rfl) (zep zd))
 (ze (zbw xcq rfl (zfl rfl Aa (za zj (za (zbm zbb zbv (zb (pv 2)) zj) zd))) (zm (i:=4) nd rfl (Or.inr rfl))
 (zf (zbl (zkk (zb (pv 3)) (za (zfm rfl (zcr (zib (zb (pv 1)) (zbm zfd (zia fun _ _ _ _=>.int _) (zb (pv 2)) (zb (pv 4))) (fun _ _=>rfl))) (fun _ _ _ _ _=>(zm (i:=0) (show(["rest", "i"]:List Str).Nodup from by decide +kernel) rfl (Or.inl rfl))) (fun _ _ _ _ _=>zex) (fun _ _ _ _ _=>(zbm zbb zbv (zij (za (zb (pv 1)) zd)) (zb (pv 0)))) (N:=["rest", "i"]) (k:=1) (is:=[4]) (zeq (by rfl))) zd)))))
 (zf (zbl (zee (zb (pv 1)) (za (zt c_settled (fun _ _ _ _ h=>zr h) (hr.mono (by decide)) rfl (za (zkl zdz zmq rfl Ac zgc (za (zb (pv 3)) zd)) zd)) zd)))))))
 (zf (zbc (zyt (zb (pv 1)))))))
theorem zfa:FnScope ["k"] ["k"] (defScope zdv):=⟨rfl, rfl, rfl, by decide +kernel, rfl, by decide +kernel, by decide +kernel⟩
theorem zjp (T:TopF K "part_turned" zdv)(XX:K.In h)(G:h.Ns mainGlobals mg){As:Tok}(m_MOST_RAISED:mg "MOST_RAISED"=some (.int 16 As))(Af:CalD P w K mg base "is_whole" 1 ["thing"] zbf)(Au:CalD P w K mg base "parts_turned" 7 ["most"] zbs):CalD P w K mg base "part_turned" 8 ["k"] zcd :=
 have nd:=zfa.nd
 zu (k:=7) T XX G zfa (fun _ _ _ _ _ _ us hl=>len1 us hl fun _=>rfl) fun f cdv A outer s H E hr=>(ze (zew (JW.pt (ztz (zfk (zdp (zt Af (fun _ _ _ _ h=>zr h) (hr.mono (by decide)) rfl (za (zb (pv 0)) zd)))) (zod (zfk (zoe zbgt zbgt (zia fun _ _ _ _=>.bl _) (zia fun _ _ _ _=>.bl _) zj (zb (pv 0)) (zle (zbbo (v:=.int 16) rfl m_MOST_RAISED ⟨_,rfl⟩) (fun _ _=>.int _)))) (by first | exact Or.inl rfl | exact Or.inr rfl)))) (zf zkh) zdb)
 (zf (zbc (zib (zt Au (fun _ _ _ _ h=>zr h) (hr.mono (by decide)) rfl (za (zb (pv 0)) zd)) (zb (pv 0)) (fun _ _=>rfl)))))
theorem zbao:FnScope ["_law_script", "_law_k", "_law_part", "_law_due", "_law_again"] ["_law_script"] (defScope zzp):=⟨rfl, rfl, rfl, by decide +kernel, rfl, by decide +kernel, by decide +kernel⟩
theorem zbgy {f:Addr}{fd:FuncData}(F:Fun K "law" "law" zzp f fd)(Ab:mg "len"=none)(z_min:mg "min"=none)(Aa:mg "range"=none)(c__law_take:CalD P w K mg base "_law_take" 1 ["_law_bag_here", "_law_many"] zdd)(c__law_bag:CalD P w K mg base "_law_bag" 1 ["_law_script", "_law_at"] zeg)(Av:CalD P w K mg base "_law_parts_turned" 3 ["_law_most"] zbe)(Aw:CalD P w K mg base "_law_are_rows" 1 ["_law_found", "_law_due"] zbt)(Ax:CalD P w K mg base "part_turned" 8 ["k"] zcd):FnOk P w K mg base CX0 9 f fd ["_law_script"] (spLaw K) :=
 have nd:=zbao.nd
 zbcw (k:=8) F zbao rfl (fun cdv A outer s H E hr=>(ze (zbw xcq rfl (zcs rfl Aa (za (zbm zbb zbv (zp (zkn rfl) zbjj rfl z_min zzj (za zj (za (zp zbo zmt rfl Ab zmo (za (zb (pv 0)) zd)) zd))) zj) zd)) (zm (i:=1) nd rfl (Or.inl rfl))
 (ze (zw (i:=2) nd rfl (Or.inl rfl) (zt c__law_take (fun _ _ _ _ h=>zr h) (hr.mono (by decide)) rfl (za (zt c__law_bag (fun _ _ _ _ h=>zr h) (hr.mono (by decide)) rfl (za (zb (pv 0)) (za (zb (pv 1)) zd))) (za zj zd))))
 (ze (zw (i:=3) nd rfl (Or.inl rfl) (zib (zt Av (fun _ _ _ _ h=>zr h) (hr.mono (by decide)) rfl (za (zb (pv 2)) zd)) (zb (pv 2)) (fun _ _=>rfl)))
 (zf (zbw xcq rfl (zcs rfl Aa (za zj zd)) (zm (i:=4) nd rfl (Or.inl rfl))
 (zf (zew (zfk (zdp (zt Aw (fun _ _ _ _ h=>zr h) (hr.mono (by decide)) rfl (za (zt Ax (fun _ _ _ _ h=>zr h) (hr.mono (by decide)) rfl (za (zb (pv 2)) zd)) (za (zb (pv 3)) zd))))) (zf (zbc zug)) zdb)))))))
 (zf (zbc zug)))) K45.holds
end
theorem all_mk {l:W.OpenLaw}{w:World}{K:Fg}{h:Heap}{mg:Str->Option Value}{fa:Addr}{u0:Tok}(X:K.In h)(G:h.Ns mainGlobals mg)(hfa:mg "law"=some (.ref fa))
  (t1:TopF K "_law_take" zft)(t2:TopF K "_law_bag" zhf)(t3:TopF K "_law_odd" zhe)(t4:TopF K "_law_pair" zfu)(t5:TopF K "_law_settled" zdi)(t6:TopF K "_law_parts_turned" zbp)(t7:TopF K "_law_are_rows" zcw)(t8:TopF K "rows_kept" zfs)(t9:TopF K "flip" zwe)(t10:TopF K "odd_ways" zhb)(t11:TopF K "rows_for_two" zde)(t12:TopF K "rows_for_row" zdf)(t13:TopF K "is_whole" zhc)(t14:TopF K "stands_in" zfr)(t15:TopF K "falls_slowly" zdh)(t16:TopF K "is_place" zhd)(t17:TopF K "exchange_in" zdw)(t18:TopF K "walked" zls)(t19:TopF K "moment" zlu)(t20:TopF K "flip_level" zeu)(t21:TopF K "places" zlt)(t22:TopF K "way" zbfq)(t23:TopF K "settled" zjl)(t24:TopF K "parts_turned" zdg)(t25:TopF K "part_turned" zdv)(t26:TopF K "law" zzp)  (z0:W.nsIn K mainGlobals "len"=some none)(z1:W.nsIn K mainGlobals "abs"=some none)(z2:W.nsIn K mainGlobals "min"=some none)(z3:W.nsIn K mainGlobals "range"=some none)(z4:W.nsIn K mainGlobals "sorted"=some none)(z5:W.nsIn K mainGlobals "tuple"=some none)(z6:W.nsIn K mainGlobals "isinstance"=some none)(z7:W.nsIn K mainGlobals "bool"=some none)(z8:W.nsIn K mainGlobals "int"=some none)(z9:W.nsIn K mainGlobals "any"=some none)(z10:W.nsIn K mainGlobals "all"=some none)(z11:W.nsIn K mainGlobals "enumerate"=some none)(z12:W.nsIn K mainGlobals "sum"=some none)(z13:W.nsIn K mainGlobals "max"=some none)(y0:W.nsIn K mainGlobals "MOST_RAISED"=some (some (.int 16 u0)))  :
  ∃ fd:FuncData,(∀(s:Shared) (v:Value), BindsTo s fd ⟨[v],[]⟩ [("_law_script", v)])/\∀ base:Heap, K.In base->base.Ns mainGlobals mg->FnOk l.prog w K mg base CX0 9 fa fd ["_law_script"] (spLaw K):=by
 have x0:=xdj X G z0;have x1:=xdj X G z1;have x2:=xdj X G z2;have x3:=xdj X G z3;have x4:=xdj X G z4;have x5:=xdj X G z5;have x6:=xdj X G z6;have x7:=xdj X G z7;have x8:=xdj X G z8;have x9:=xdj X G z9;have x10:=xdj X G z10;have x11:=xdj X G z11;have x12:=xdj X G z12;have x13:=xdj X G z13;have v0:=W.mg_of X G y0;obtain⟨f,fd,a,F⟩:=t26;have e:=hfa.symm.trans (W.mg_of X G a);cases e;obtain⟨oc,od,kV,doc,pm,an,cdv,ct,osl,rfl,lk,hcd⟩:=id F.ex;refine⟨W.fnOf "law" "law" (defArgs zzp) (defBody zzp) (defScope zzp) .none kV doc pm an cdv ct, fun s v=>.of_eq rfl, fun base _ _=>?_⟩
 have k__law_take:CalD l.prog w K mg base _ _ _ _:=zmc t1 X G 
 have k__law_bag:CalD l.prog w K mg base _ _ _ _:=zoz t2 X G x0 x1 x2 x3
 have k__law_odd:CalD l.prog w K mg base _ _ _ _:=zoy t3 X G x4 x5
 have k__law_pair:CalD l.prog w K mg base _ _ _ _:=zmd t4 X G x3 x2
 have Ay:CalD l.prog w K mg base _ _ _ _:=zih t5 X G x0 x3 k__law_odd k__law_pair
 have Az:CalD l.prog w K mg base _ _ _ _:=zev t6 X G x3 Ay
 have A0:CalD l.prog w K mg base _ _ _ _:=zhj t7 X G x5 x6 x7 x8 x9
 have k_rows_kept:CalD l.prog w K mg base _ _ _ _:=zmb t8 X G 
 have k_flip:CalD l.prog w K mg base _ _ _ _:=zbbz t9 X G 
 have k_odd_ways:CalD l.prog w K mg base _ _ _ _:=zov t10 X G 
 have A1:CalD l.prog w K mg base _ _ _ _:=zid t11 X G x3 x4 k_odd_ways
 have Am:CalD l.prog w K mg base _ _ _ _:=zie t12 X G A1
 have Ak:CalD l.prog w K mg base _ _ _ _:=zow t13 X G x7 x6 x8
 have k_stands_in:CalD l.prog w K mg base _ _ _ _:=zma t14 X G x10 x5 x6 Ak
 have A2:CalD l.prog w K mg base _ _ _ _:=zig t15 X G 
 have An:CalD l.prog w K mg base _ _ _ _:=zox t16 X G x0 Ak A2
 have A3:CalD l.prog w K mg base _ _ _ _:=zjq t17 X G k_stands_in An k_flip Am
 have k_walked:CalD l.prog w K mg base _ _ _ _:=ztc t18 X G x4 x5 k_rows_kept A3
 have k_moment:CalD l.prog w K mg base _ _ _ _:=zte t19 X G x11 x12
 have A4:CalD l.prog w K mg base _ _ _ _:=zkx t20 X G k_flip k_moment
 have k_places:CalD l.prog w K mg base _ _ _ _:=ztd t21 X G x0 x3 An
 have k_way:CalD l.prog w K mg base _ _ _ _:=zbgx t22 X G x13 x4 A4 k_places Am
 have k_settled:CalD l.prog w K mg base _ _ _ _:=zqj t23 X G k_walked k_way
 have A5:CalD l.prog w K mg base _ _ _ _:=zif t24 X G x3 x5 k_settled
 have A6:CalD l.prog w K mg base _ _ _ _:=zjp t25 X G v0 Ak A5
 exact zbgy F x0 x2 x3 k__law_take k__law_bag Az A0 A6
end K45
open PySem PySem.W PyProof.Rows
set_option maxRecDepth 100000 in
set_option maxHeartbeats 0 in
theorem PySem.Challenge.cw_raisedsums_k45_parts_turned_holds : PySem.Challenge.rw_raisedsums_k45_parts_turned.Holds := by
  w_on; o_law; k_head; (case hw => w_witness2)
  k_fill
  refine L2.zzy (l := PySem.Challenge.rw_raisedsums_k45_parts_turned) (n := 63) (k := 9) (x := "_law_script") (CX := fun _ => L2.CX0) (sp := fun w => Dd.spLaw _) rfl (by decide) rfl ⟨rfl, by decide, by decide⟩ (fun w h Y => PySem.W.kIn_of Y) ?F (fun _ _ a ns hl _ hS => ⟨a, ns, rfl, hS, hl, fun _ => rfl⟩) (fun _ _ _ _ _ z => z)
  case F =>
    intro w mg fa h KX G hmg
    refine' K45.all_mk KX G hmg ?t1 ?t2 ?t3 ?t4 ?t5 ?t6 ?t7 ?t8 ?t9 ?t10 ?t11 ?t12 ?t13 ?t14 ?t15 ?t16 ?t17 ?t18 ?t19 ?t20 ?t21 ?t22 ?t23 ?t24 ?t25 ?t26  ?z0 ?z1 ?z2 ?z3 ?z4 ?z5 ?z6 ?z7 ?z8 ?z9 ?z10 ?z11 ?z12 ?z13 ?y0 
    all_goals first|k_is|kernel_rfl|(refine' L2.zcb ?a ?l ?c ?k;(case a=>k_is);(case l=>k_is);(case c=>k_is);(case k=>k_is))|skip
#print axioms PySem.Challenge.cw_raisedsums_k45_parts_turned_holds
